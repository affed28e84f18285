package freelist

import (
	"bytes"
	"encoding/binary"
	"math"
	"math/big"
	"math/rand"
	"slices"
	"testing"

	"cashbook/api"
)

// last is the greatest number that a page may have.
const last = math.MaxUint32

// full is how many numbers a page names, at most.
const full = 123

// rise are n numbers, each so far behind the one ahead.
func rise(from uint32, n int, by uint32) []uint32 {
	all := make([]uint32, n)
	for i := range all {
		all[i] = from + uint32(i)*by
	}
	return all
}

// with is a row of numbers with another one at a place.
func with(numbers []uint32, at int, n uint32) []uint32 {
	all := slices.Clone(numbers)
	all[at] = n
	return all
}

// told is a page's body by the chapter's words, which says that it names so many numbers, whatever they are.
func told(next uint32, count int, numbers ...uint32) []byte {
	b := binary.BigEndian.AppendUint32(nil, next)
	b = binary.BigEndian.AppendUint16(b, uint16(count))
	for _, n := range numbers {
		b = binary.BigEndian.AppendUint32(b, n)
	}
	return b
}

// laid is a page's body by the chapter's words.
func laid(next uint32, numbers ...uint32) []byte { return told(next, len(numbers), numbers...) }

// bodiesByWords is what Bodies should answer, by the chapter's words: the numbers go to their pages one by one.
func bodiesByWords(numbers, pages []uint32) ([][]byte, api.Errno) {
	for i, n := range numbers {
		if n < 2 || i > 0 && n <= numbers[i-1] || i/full >= len(pages) {
			return nil, api.ErrArg
		}
	}
	named := make([][]uint32, len(pages))
	for i, n := range numbers {
		named[i/full] = append(named[i/full], n)
	}
	var all [][]byte
	for i, n := range pages {
		if n < 2 {
			return nil, api.ErrArg
		}
		all = append(all, laid(append(slices.Clone(pages), 0)[i+1], named[i]...))
	}
	return all, api.OK
}

// parseByWords is what Parse should answer, by the chapter's words.
func parseByWords(b []byte) (uint32, []uint32, api.Errno) {
	for count := range full + 1 {
		if len(b) != 6+4*count || binary.BigEndian.Uint16(b[4:]) != uint16(count) {
			continue
		}
		next := binary.BigEndian.Uint32(b)
		var numbers []uint32
		for i := range count {
			n := binary.BigEndian.Uint32(b[6+4*i:])
			if n < 2 || i > 0 && n <= numbers[i-1] {
				return 0, nil, api.ErrForm
			}
			numbers = append(numbers, n)
		}
		if next == 1 {
			return 0, nil, api.ErrForm
		}
		return next, numbers, api.OK
	}
	return 0, nil, api.ErrForm
}

// checkNeed holds how many pages a list needs against how many it should.
func checkNeed(t testing.TB, free, want int) {
	t.Helper()
	if n := Need(free); n != want {
		t.Errorf("Need(%d) is %d, not %d", free, n, want)
	}
}

// checkBodies holds the bodies of a list's pages against what they should be.
func checkBodies(t testing.TB, numbers, pages []uint32, want ...[]byte) {
	t.Helper()
	l, err := Bodies(numbers, pages)
	if err != api.OK || !slices.EqualFunc(l, want, bytes.Equal) {
		t.Errorf("Bodies of %v in %v answers %v and %d, not %v", numbers, pages, l, err, want)
	}
}

// checkNoBodies lays what is no list: an error alone.
func checkNoBodies(t testing.TB, numbers, pages []uint32) {
	t.Helper()
	if l, err := Bodies(numbers, pages); err != api.ErrArg || len(l) != 0 {
		t.Errorf("Bodies of %v in %v answers %d bodies and %d, not %d alone", numbers, pages, len(l), err, api.ErrArg)
	}
}

// checkAnyBodies lays any numbers in any pages: the answer is the one by the chapter's words.
func checkAnyBodies(t testing.TB, numbers, pages []uint32) api.Errno {
	t.Helper()
	want, err := bodiesByWords(numbers, pages)
	if err != api.OK {
		checkNoBodies(t, numbers, pages)
		return err
	}
	checkBodies(t, numbers, pages, want...)
	checkThereAndBack(t, numbers, pages)
	return err
}

// checkParse holds what a body says against what it should.
func checkParse(t testing.TB, b []byte, next uint32, numbers ...uint32) {
	t.Helper()
	n, l, err := Parse(b)
	if err != api.OK || n != next || !slices.Equal(l, numbers) {
		t.Errorf("Parse of %v answers %d, %v and %d, not %d and %v", b, n, l, err, next, numbers)
	}
}

// checkNoParse parses what is no page's body: an error alone.
func checkNoParse(t testing.TB, b []byte) {
	t.Helper()
	if n, l, err := Parse(b); err != api.ErrForm || n != 0 || len(l) != 0 {
		t.Errorf("Parse of %v answers %d, %v and %d, not %d alone", b, n, l, err, api.ErrForm)
	}
}

// checkAnyParse parses any bytes: the answer is the one by the chapter's words, and what is told has those bytes alone.
func checkAnyParse(t testing.TB, b []byte) api.Errno {
	t.Helper()
	next, numbers, err := parseByWords(b)
	if err != api.OK {
		checkNoParse(t, b)
		return err
	}
	checkParse(t, b, next, numbers...)
	checkOneWay(t, b)
	return err
}

// checkThereAndBack lays a list in pages, and reads it again as whoever has the disk does, from the first page on.
func checkThereAndBack(t testing.TB, numbers, pages []uint32) {
	t.Helper()
	bodies, err := Bodies(numbers, pages)
	if err != api.OK || len(bodies) != len(pages) {
		t.Fatalf("Bodies of %v in %v answers %d bodies and %d", numbers, pages, len(bodies), err)
	}
	var all []uint32
	for i, b := range bodies {
		next, part, err := Parse(b)
		if err != api.OK {
			t.Fatalf("the body of page %d isn't read: %d", i, err)
		}
		if want := append(slices.Clone(pages), 0)[i+1]; next != want {
			t.Errorf("page %d of %v names the next page %d, not %d", i, pages, next, want)
		}
		if want := min(full, len(numbers)-len(all)); len(part) != want {
			t.Errorf("page %d names %d numbers, not %d", i, len(part), want)
		}
		all = append(all, part...)
	}
	if !slices.Equal(all, numbers) {
		t.Errorf("%v, laid in %v, is read as %v", numbers, pages, all)
	}
}

// checkOneWay lays again what a body says: the same bytes.
func checkOneWay(t testing.TB, b []byte) {
	t.Helper()
	next, numbers, err := Parse(b)
	if err != api.OK {
		t.Fatalf("%v isn't read: %d", b, err)
	}
	if next == 0 {
		checkBodies(t, numbers, []uint32{9}, b)
		return
	}
	// The page behind it names nothing: all numbers are this one's.
	checkBodies(t, numbers, []uint32{9, next}, b, laid(0))
}

// counts are lengths of lists about which pages are begun, and some between.
func counts() []int {
	return []int{0, 1, 2, 3, 7, 61, 121, 122, 123, 124, 125, 130, 245, 246, 247, 248, 255, 256, 257, 368, 369, 370, 4094}
}

// lists are rows of numbers of those lengths: the least ones, the greatest ones, and some with gaps.
func lists() [][]uint32 {
	var all [][]uint32
	for _, n := range counts() {
		all = append(all, rise(2, n, 1), rise(last-uint32(n)+1, n, 1), rise(2, n, last/5000), rise(300, n, 257))
	}
	return all
}

// P9.1: the chapter's examples.
func TestExamples(t *testing.T) {
	checkNeed(t, 1, 1)
	checkNeed(t, 124, 1)
	checkNeed(t, 125, 2)
	b := []byte{0, 0, 0, 0, 0, 2, 0, 0, 0, 2, 0, 0, 0, 7}
	checkBodies(t, []uint32{2, 7}, []uint32{5}, b)
	checkParse(t, b, 0, 2, 7)
}

// P9.1: where there is nothing free, no page is needed; about each edge at which a page more is.
func TestNeedAtEdges(t *testing.T) {
	for _, free := range []int{math.MinInt, math.MinInt + 1, -1 << 31, -250, -249, -248, -125, -124, -123, -2, -1, 0} {
		checkNeed(t, free, 0)
	}
	for _, free := range []int{1, 2, 3, 122, 123, 124} {
		checkNeed(t, free, 1)
	}
	for _, free := range []int{125, 126, 127, 246, 247, 248} {
		checkNeed(t, free, 2)
	}
	for _, free := range []int{249, 250, 251, 371, 372} {
		checkNeed(t, free, 3)
	}
	checkNeed(t, 373, 4)
	checkNeed(t, 4092, 33)
	checkNeed(t, 4093, 34)
	checkNeed(t, 4094, 34)
}

// P9.1: of every number of pages that are free, the least k for which k pages name all but k, tried from 0 on.
func TestNeedOfEach(t *testing.T) {
	for free := -500; free <= 20000; free++ {
		k := 0
		for free >= 1 && full*k < free-k {
			k++
		}
		checkNeed(t, free, k)
	}
}

// enough tells whether k pages name as many numbers as free less k, however great these are.
func enough(free, k int) bool {
	names := new(big.Int).Mul(big.NewInt(int64(k)), big.NewInt(full))
	others := new(big.Int).Sub(big.NewInt(int64(free)), big.NewInt(int64(k)))
	return names.Cmp(others) >= 0
}

// checkLeast asks what a number of pages needs: so many are enough, and one fewer isn't.
func checkLeast(t testing.TB, free int) {
	t.Helper()
	k := Need(free)
	if free < 1 {
		checkNeed(t, free, 0)
		return
	}
	if k < 1 || !enough(free, k) || enough(free, k-1) {
		t.Errorf("Need(%d) is %d, which isn't the least that is enough", free, k)
	}
}

// P9.1: great numbers of pages, at which nothing goes round.
func TestNeedOfGreat(t *testing.T) {
	for _, at := range []int{1 << 15, 1 << 16, 1 << 31, 1 << 32, 124 << 32, 1 << 56, 1 << 62, math.MaxInt / 124 * 124, math.MaxInt / 123, math.MaxInt / 2, math.MaxInt - 300} {
		for by := -260; by <= 260; by++ {
			checkLeast(t, at+by)
		}
	}
	for by := range 300 {
		checkLeast(t, math.MaxInt-by)
		checkLeast(t, math.MinInt+by)
	}
	source := rand.New(rand.NewSource(91))
	for range 5000 {
		checkLeast(t, int(source.Uint64()>>source.Intn(64)))
		checkLeast(t, -int(source.Uint64()>>source.Intn(64)))
	}
}

// P9.1: of so many pages that are free as many as are needed name the others, and one fewer doesn't.
func TestNeedIsWhatBodiesTake(t *testing.T) {
	for free := 1; free <= 800; free++ {
		k := Need(free)
		pages := rise(2, k, 1)
		checkThereAndBack(t, rise(2+uint32(k), free-k, 1), pages)
		checkNoBodies(t, rise(2+uint32(k), free-k+1, 1), pages[1:])
	}
	for _, free := range []int{4092, 4093, 4094} {
		k := Need(free)
		checkThereAndBack(t, rise(2+uint32(k), free-k, 1), rise(2, k, 1))
	}
}

// P9.1: no numbers and no pages: no bodies, and no error.
func TestNothing(t *testing.T) {
	for _, none := range [][]uint32{nil, {}} {
		checkBodies(t, none, nil)
		checkBodies(t, none, []uint32{})
	}
}

// P9.1: numbers and no pages.
func TestNoPages(t *testing.T) {
	for _, l := range lists() {
		if len(l) > 0 {
			checkNoBodies(t, l, nil)
			checkNoBodies(t, l, []uint32{})
		}
	}
	checkNoBodies(t, []uint32{0}, nil)
}

// P9.1: pages and no numbers: each names the next one, and nothing else.
func TestNoNumbers(t *testing.T) {
	checkBodies(t, nil, []uint32{7}, []byte{0, 0, 0, 0, 0, 0})
	checkBodies(t, []uint32{}, []uint32{7, 9, 300}, []byte{0, 0, 0, 9, 0, 0}, []byte{0, 0, 1, 44, 0, 0}, []byte{0, 0, 0, 0, 0, 0})
	checkThereAndBack(t, nil, rise(5, 200, 3))
}

// P9.1: which part stands where, the highest byte first.
func TestParts(t *testing.T) {
	numbers := []uint32{0x05060708, 0x090a0b0c, 0x0d0e0f10}
	b := []byte{1, 2, 3, 4, 0, 3, 5, 6, 7, 8, 9, 10, 11, 12, 13, 14, 15, 16}
	checkBodies(t, numbers, []uint32{0x11121314, 0x01020304}, b, make([]byte, 6))
	checkParse(t, b, 0x01020304, numbers...)
}

// P9.1: how many bodies there are, and how long each is: a page is full ahead of the next one's first number.
func TestHowLong(t *testing.T) {
	for _, c := range []struct {
		numbers int
		want    []int
	}{
		{1, []int{10, 6, 6, 6}},
		{122, []int{494, 6, 6, 6}},
		{123, []int{498, 6, 6, 6}},
		{124, []int{498, 10, 6, 6}},
		{246, []int{498, 498, 6, 6}},
		{247, []int{498, 498, 10, 6}},
		{492, []int{498, 498, 498, 498}},
	} {
		l, err := Bodies(rise(2, c.numbers, 3), []uint32{8, 7, 6, 5})
		if err != api.OK || len(l) != len(c.want) {
			t.Fatalf("%d numbers: %d bodies, and %d", c.numbers, len(l), err)
		}
		for i, b := range l {
			if len(b) != c.want[i] {
				t.Errorf("%d numbers: the body %d has %d bytes, not %d", c.numbers, i, len(b), c.want[i])
			}
		}
	}
}

// P9.1 and P9.2: lists of many lengths, in just as many pages as they take, in more, and in one fewer.
func TestLists(t *testing.T) {
	for _, l := range lists() {
		takes := (len(l) + full - 1) / full
		for more := range 4 {
			for _, pages := range [][]uint32{rise(2, takes+more, 1), rise(last-uint32(takes+more)+1, takes+more, 1)} {
				if err := checkAnyBodies(t, l, pages); err != api.OK {
					t.Errorf("%d numbers in %d pages are %d by the chapter's words", len(l), len(pages), err)
				}
			}
		}
		if takes > 0 {
			checkNoBodies(t, l, rise(2, takes-1, 1))
		}
	}
}

// P9.1: as many numbers as the pages name, and one more than those.
func TestOneTooMany(t *testing.T) {
	for pages := range 12 {
		checkThereAndBack(t, rise(2, full*pages, 1), rise(9, pages, 1))
		checkNoBodies(t, rise(2, full*pages+1, 1), rise(9, pages, 1))
	}
}

// P9.1: the least number, and the greatest one, as the only one, the first one and the last one.
func TestEdgesOfNumbers(t *testing.T) {
	for _, n := range []uint32{2, 3, 255, 256, 65535, 65536, 1<<24 - 1, 1 << 24, 1<<31 - 1, 1 << 31, last - 1, last} {
		checkBodies(t, []uint32{n}, []uint32{9}, laid(0, n))
		checkParse(t, laid(0, n), 0, n)
		if n > 2 && n < last {
			checkBodies(t, []uint32{2, n, last}, []uint32{9}, laid(0, 2, n, last))
			checkParse(t, laid(8, 2, n, last), 8, 2, n, last)
		}
	}
}

// wrongs are lists of n numbers with one fault each, at every place: a number below 2, one that is as the one ahead, one that falls.
func wrongs(n int) [][]uint32 {
	right := rise(5, n, 3)
	var all [][]uint32
	for i, is := range right {
		all = append(all, with(right, i, 0), with(right, i, 1))
		if i > 0 {
			all = append(all, with(right, i, is-3), with(right, i, is-4), with(right, i, 2), with(right, i-1, is), with(right, i-1, last))
		}
	}
	return all
}

// P9.1: a number of 0 or 1, two that are the same, one that falls: within a page, and from one to the next one.
func TestWrongNumbers(t *testing.T) {
	for _, n := range []int{1, 2, 3, 122, 123, 124, 125, 246, 247, 250} {
		pages := []uint32{7, 6, 5}
		checkThereAndBack(t, rise(5, n, 3), pages)
		for _, l := range wrongs(n) {
			checkNoBodies(t, l, pages)
			if n <= full {
				checkNoParse(t, laid(0, l...))
				checkNoParse(t, laid(7, l...))
			}
		}
	}
	for _, l := range [][]uint32{{0}, {1}, {0, 1}, {1, 2}, {0, 2}, {2, 2}, {last, last}, {3, 2}, {last, 2}, {1 << 31, 1<<31 - 1}, {last, 0}} {
		checkNoBodies(t, l, []uint32{9})
		checkNoParse(t, laid(0, l...))
	}
}

// P9.1: a page of 0 or 1, at every place, among those that nothing is laid in, too; every other one may be.
func TestPages(t *testing.T) {
	right := []uint32{9, 3, 300, last, 7}
	for _, n := range counts() {
		if n > 5*full {
			continue
		}
		l := rise(2, n, 2)
		for i := range right {
			checkNoBodies(t, l, with(right, i, 0))
			checkNoBodies(t, l, with(right, i, 1))
			for _, is := range []uint32{2, 3, 256, 1<<31 - 1, 1 << 31, last} {
				pages := with(right, i, is)
				want, _ := bodiesByWords(l, pages)
				checkBodies(t, l, pages, want...)
			}
		}
	}
	for _, n := range []uint32{0, 1} {
		checkNoBodies(t, nil, []uint32{n})
		checkNoBodies(t, []uint32{2}, []uint32{n})
	}
}

// P9.1: nothing is said of pages that are the same, that fall, or that the list names: they are laid as they are.
func TestPagesAsTheyAre(t *testing.T) {
	checkBodies(t, []uint32{4, 5}, []uint32{6, 6}, laid(6, 4, 5), laid(0))
	checkBodies(t, []uint32{4, 5}, []uint32{8, 7, 6}, laid(7, 4, 5), laid(6), laid(0))
	checkBodies(t, []uint32{4, 5}, []uint32{4, 5}, laid(5, 4, 5), laid(0))
}

// R2: in every choice of faults the answer is an error alone.
func TestFaultsOfBodies(t *testing.T) {
	for faults := 1; faults < 32; faults++ {
		numbers, pages := rise(50, 2*full, 2), []uint32{9, 8}
		if faults&1 != 0 {
			numbers[0] = 1
		}
		if faults&2 != 0 {
			numbers[7] = numbers[6]
		}
		if faults&4 != 0 {
			numbers[200] = 2
		}
		if faults&8 != 0 {
			pages[1] = 0
		}
		if faults&16 != 0 {
			numbers = append(numbers, last)
		}
		checkNoBodies(t, numbers, pages)
	}
}

// P9.1: bodies of every length, which say that they name each number of numbers: one length alone is right.
func TestLengths(t *testing.T) {
	numbers := rise(2, 150, 5)
	for count := range 140 {
		b := told(7, count, numbers...)
		for n := range len(b) + 1 {
			if count <= full && n == 6+4*count {
				checkParse(t, b[:n], 7, numbers[:count]...)
			} else {
				checkNoParse(t, b[:n])
			}
		}
	}
}

// P9.1: the lengths that the chapter's form has at its edges, and those beside them.
func TestEdgesOfLengths(t *testing.T) {
	checkNoParse(t, nil)
	for n := range 6 {
		checkNoParse(t, make([]byte, n))
	}
	checkParse(t, make([]byte, 6), 0)
	for n := 7; n < 520; n++ {
		checkNoParse(t, make([]byte, n))
	}
	most := laid(4, rise(2, full, 1)...)
	if len(most) != 498 {
		t.Fatalf("%d bytes", len(most))
	}
	checkParse(t, most, 4, rise(2, full, 1)...)
	checkNoParse(t, most[:497])
	checkNoParse(t, append(slices.Clone(most), 0))
	checkNoParse(t, laid(4, rise(2, full+1, 1)...))
}

// P9.1: numbers of numbers above 123, in bodies that have just so many, and in such as have as many as the lower byte says.
func TestCounts(t *testing.T) {
	numbers := rise(2, math.MaxUint16, 1)
	for _, count := range []int{124, 125, 127, 128, 200, 255, 256, 257, 379, 380, 512, 1<<15 - 1, 1 << 15, math.MaxUint16} {
		checkNoParse(t, laid(0, numbers[:count]...))
	}
	for high := 1; high < 256; high++ {
		for low := range full + 1 {
			checkNoParse(t, told(0, high<<8|low, numbers[:low]...))
		}
		checkNoParse(t, told(0, high, numbers[:full]...)[:6])
	}
}

// P9.1: a next page of 1 is none; every other one may be, 0 as the last one's.
func TestNext(t *testing.T) {
	for _, l := range [][]uint32{nil, {2}, {2, 7}, rise(2, full, 4)} {
		checkNoParse(t, laid(1, l...))
		for _, next := range []uint32{0, 2, 3, 255, 256, 257, 65536, 65537, 1 << 24, 1<<24 + 1, 1<<31 - 1, 1 << 31, 1<<31 + 1, last - 1, last} {
			checkParse(t, laid(next, l...), next, l...)
			checkOneWay(t, laid(next, l...))
		}
	}
	// A page may even name itself as one that is free, or as the next one: that a body alone can't tell.
	checkParse(t, laid(5, 5), 5, 5)
}

// R2: in every choice of faults the answer is an error alone.
func TestFaultsOfParse(t *testing.T) {
	for faults := 1; faults < 64; faults++ {
		numbers, next, count := rise(50, 20, 2), uint32(6), 20
		if faults&1 != 0 {
			numbers[0] = 0
		}
		if faults&2 != 0 {
			numbers[5] = numbers[4]
		}
		if faults&4 != 0 {
			numbers[9] = 2
		}
		if faults&8 != 0 {
			next = 1
		}
		if faults&16 != 0 {
			count += 256
		}
		b := told(next, count, numbers...)
		if faults&32 != 0 {
			b = append(b, 0)
		}
		checkNoParse(t, b)
	}
}

// P9.2: a list that is laid in pages is read again by going from each page to the next one.
func TestFromPageToPage(t *testing.T) {
	for _, l := range lists() {
		pages := rise(9, len(l)/full+2, 11)
		slices.Reverse(pages)
		bodies, err := Bodies(l, pages)
		if err != api.OK || len(bodies) != len(pages) {
			t.Fatalf("%d numbers: %d bodies, and %d", len(l), len(bodies), err)
		}
		at := map[uint32][]byte{}
		for i, n := range pages {
			at[n] = bodies[i]
		}
		var all, went []uint32
		for n := pages[0]; n != 0 && len(went) < len(pages); {
			went = append(went, n)
			next, part, err := Parse(at[n])
			if err != api.OK {
				t.Fatalf("page %d isn't read: %d", n, err)
			}
			all = append(all, part...)
			n = next
		}
		if !slices.Equal(all, l) || !slices.Equal(went, pages) {
			t.Errorf("%v in %v is read as %v in %v", l, pages, all, went)
		}
	}
}

// P9.2: what a body says has that one body alone: another one, changed in a byte, in a bit, says something else, or nothing.
func TestOneWay(t *testing.T) {
	for _, b := range [][]byte{laid(0), laid(2), laid(0, 2), laid(0, 2, 7), laid(300, 3, 4, 5), laid(last, last), laid(7, rise(2, 122, 2)...), laid(0, rise(300, full, 257)...), laid(9, rise(last-122, full, 1)...)} {
		next, numbers, err := Parse(b)
		if err != api.OK {
			t.Fatalf("%v isn't read: %d", b, err)
		}
		checkOneWay(t, b)
		for at := range b {
			for bit := range 8 {
				other := slices.Clone(b)
				other[at] ^= 1 << bit
				n, l, err := Parse(other)
				if err == api.OK && n == next && slices.Equal(l, numbers) {
					t.Errorf("%v and %v say the same", b, other)
				}
				checkAnyParse(t, other)
			}
		}
	}
}

// some is a row of up to n numbers, which mostly rise; one in some is wrong.
func some(source *rand.Rand, n int) []uint32 {
	l := rise(2+uint32(source.Intn(5)), source.Intn(n+1), 1+uint32(source.Intn(4)))
	if source.Intn(3) == 0 && len(l) > 0 {
		l[source.Intn(len(l))] = []uint32{0, 1, 2, last, l[source.Intn(len(l))], source.Uint32()}[source.Intn(6)]
	}
	return l
}

// P9.1 and P9.2: lists and bodies chosen at random, of which about as many are right as wrong.
func TestRandom(t *testing.T) {
	source := rand.New(rand.NewSource(9))
	laidAs, parsedAs := map[api.Errno]int{}, map[api.Errno]int{}
	for range 5000 {
		laidAs[checkAnyBodies(t, some(source, 400), some(source, 6))]++
		l := some(source, 130)
		count := len(l)
		if source.Intn(10) == 0 {
			count += source.Intn(3) - 1
		}
		b := told(uint32(source.Intn(4)), count, l...)
		if source.Intn(10) == 0 {
			b = append(b, 0)
		}
		parsedAs[checkAnyParse(t, b)]++
	}
	if laidAs[api.OK] < 1000 || laidAs[api.ErrArg] < 1000 || parsedAs[api.OK] < 1000 || parsedAs[api.ErrForm] < 1000 {
		t.Errorf("so often each was answered: %v, %v", laidAs, parsedAs)
	}
}

// R3: numbers, pages and bytes that are handed in aren't changed, nor is what lies behind them in memory.
func TestHandedInStays(t *testing.T) {
	for _, n := range counts() {
		for _, pages := range [][]uint32{rise(9, n/full+1, 4), rise(9, n/full+3, 4), {1}, nil} {
			for _, l := range [][]uint32{rise(2, n, 3), rise(1, n, 3), rise(2, n, 0)} {
				roomOfNumbers, roomOfPages := slices.Concat(l, []uint32{1, 2, 3}), slices.Concat(pages, []uint32{4, 5, 6})
				Bodies(roomOfNumbers[:n], roomOfPages[:len(pages)])
				if !slices.Equal(roomOfNumbers, slices.Concat(l, []uint32{1, 2, 3})) || !slices.Equal(roomOfPages, slices.Concat(pages, []uint32{4, 5, 6})) {
					t.Errorf("%d numbers, %d pages: they were changed", n, len(pages))
				}
			}
		}
		b := laid(uint32(n), rise(2, n, 1)...)
		room := slices.Concat(b, []byte{7, 8, 9})
		for _, cut := range []int{0, 3, len(b), len(b) + 1} {
			Parse(room[:cut])
		}
		if !bytes.Equal(room, slices.Concat(b, []byte{7, 8, 9})) {
			t.Errorf("%d numbers: the body was changed", n)
		}
	}
}

// spoil writes over a row of things, and over all that lies behind them in their memory.
func spoil[T byte | uint32](l []T) {
	l = l[:cap(l)]
	for i := range l {
		l[i] = ^l[i]
	}
}

// R3: bodies are new memory: whoever writes into what was handed in, or into another body, changes nothing of them.
func TestBodiesAreNew(t *testing.T) {
	for _, n := range []int{0, 1, 123, 124, 250, 600} {
		numbers, pages := rise(2, n, 3), rise(9, n/full+2, 4)
		want, _ := bodiesByWords(numbers, pages)
		first, _ := Bodies(numbers, pages)
		second, _ := Bodies(numbers, pages)
		spoil(numbers)
		spoil(pages)
		for i := range first {
			if !bytes.Equal(first[i], want[i]) {
				t.Fatalf("%d numbers: the body %d has changed", n, i)
			}
			spoil(first[i])
		}
		if !slices.EqualFunc(second, want, bytes.Equal) {
			t.Errorf("%d numbers: two answers share their bytes", n)
		}
		clear(first)
		checkBodies(t, rise(2, n, 3), rise(9, n/full+2, 4), want...)
	}
}

// R3: numbers that were told are new memory: whoever writes into the body, or into another answer, changes nothing of them.
func TestNumbersAreNew(t *testing.T) {
	for n := range full + 1 {
		want := rise(2, n, 3)
		b := laid(7, want...)
		_, first, _ := Parse(b)
		_, second, _ := Parse(b)
		spoil(first)
		checkParse(t, b, 7, want...)
		spoil(b)
		if !slices.Equal(second, want) {
			t.Errorf("%d numbers: what was told has become %v", n, second)
		}
	}
}

// R5: the same arguments are answered the same way, whatever was asked between.
func TestNothingIsKept(t *testing.T) {
	l, pages := rise(2, 130, 2), []uint32{5, 300, 9}
	want, _ := bodiesByWords(l, pages)
	for n := range 300 {
		Bodies(rise(uint32(n), n, 1), rise(uint32(n), n/100, 1))
		Parse(told(uint32(n), n, rise(uint32(n), n, 1)...))
		Need(n)
		checkBodies(t, l, pages, want...)
		checkParse(t, want[1], 9, l[full:]...)
		checkParse(t, want[2], 0)
		checkNeed(t, 125, 2)
	}
}

// P9.1, of any number of pages that are free.
func FuzzNeed(f *testing.F) {
	for _, free := range []int{math.MinInt, -1, 0, 1, 124, 125, math.MaxInt} {
		f.Add(free)
	}
	f.Fuzz(func(t *testing.T, free int) { checkLeast(t, free) })
}

// numbersOf are numbers of bytes: each is as far behind the one ahead as a byte says, and 255 is a number of its own, of the four bytes behind it.
func numbersOf(b []byte) []uint32 {
	var all []uint32
	ahead := uint32(0)
	for len(b) > 0 {
		by := b[0]
		b = b[1:]
		if by == 255 && len(b) >= 4 {
			ahead = binary.BigEndian.Uint32(b)
			b = b[4:]
		} else {
			ahead += uint32(by)
		}
		all = append(all, ahead)
	}
	return all
}

// P9.1 and P9.2, of any numbers and pages.
func FuzzBodies(f *testing.F) {
	f.Add([]byte(nil), []byte(nil))
	f.Add([]byte{2, 5}, []byte{5})
	f.Add(bytes.Repeat([]byte{2}, 130), []byte{5, 255, 0, 0, 0, 3, 4})
	f.Add([]byte{2, 0}, []byte{1})
	f.Fuzz(func(t *testing.T, numbers, pages []byte) {
		checkAnyBodies(t, numbersOf(numbers), numbersOf(pages))
	})
}

// P9.1 and P9.2, of any bytes, as they are, and as the numbers of a body.
func FuzzParse(f *testing.F) {
	f.Add([]byte(nil), uint32(0))
	f.Add([]byte{0, 0, 0, 0, 0, 2, 0, 0, 0, 2, 0, 0, 0, 7}, uint32(2))
	f.Add(bytes.Repeat([]byte{2}, 123), uint32(1))
	f.Fuzz(func(t *testing.T, b []byte, next uint32) {
		checkAnyParse(t, b)
		checkAnyParse(t, laid(next, numbersOf(b)...))
	})
}
