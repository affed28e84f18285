package super

import (
	"bytes"
	"encoding/binary"
	"hash/crc32"
	"math"
	"math/rand"
	"slices"
	"testing"

	"cashbook/api"
)

// sumOf is the sum as the library has it.
func sumOf(b []byte) uint32 { return crc32.Checksum(b, crc32.MakeTable(crc32.Castagnoli)) }

// sealed are a page's bytes by chapter 6's words, part behind part.
func sealed(number uint32, kind byte, body []byte) []byte {
	rest := binary.BigEndian.AppendUint32(nil, number)
	rest = append(rest, kind)
	rest = binary.BigEndian.AppendUint16(rest, uint16(len(body)))
	rest = append(rest, 0)
	rest = append(rest, body...)
	rest = append(rest, make([]byte, 508-len(rest))...)
	return append(binary.BigEndian.AppendUint32(nil, sumOf(rest)), rest...)
}

// words are all parts of a super behind its Seq, in the chapter's order.
func words(s api.Super) []uint32 {
	all := []uint32{s.Blocks, s.List, s.Free}
	for _, r := range s.Roots {
		all = append(all, r.Page, r.Count, r.Height)
	}
	return all
}

// of is the super of a Seq and of the parts behind it, in the chapter's order.
func of(seq uint64, all []uint32) api.Super {
	s := api.Super{Seq: seq, Blocks: all[0], List: all[1], Free: all[2]}
	for i := range s.Roots {
		s.Roots[i] = api.Root{Page: all[3+3*i], Count: all[4+3*i], Height: all[5+3*i]}
	}
	return s
}

// bodyOf is a super's body by the chapter's words.
func bodyOf(s api.Super) []byte {
	b := binary.BigEndian.AppendUint64(nil, s.Seq)
	for _, n := range words(s) {
		b = binary.BigEndian.AppendUint32(b, n)
	}
	return b
}

// laid are a super's page's bytes by the chapter's words.
func laid(s api.Super) []byte { return sealed(uint32(s.Seq%2), 1, bodyOf(s)) }

// summed are a block's bytes, with their sum put right.
func summed(b []byte) []byte {
	other := slices.Clone(b)
	binary.BigEndian.PutUint32(other, sumOf(other[4:]))
	return other
}

// changed is b with bytes made one with those at a place.
func changed(b []byte, at int, by ...byte) []byte {
	other := slices.Clone(b)
	for i, c := range by {
		other[at+i] ^= c
	}
	return other
}

// mixed is a super of parts chosen by its Seq.
func mixed(seq uint64) api.Super {
	source := rand.New(rand.NewSource(int64(seq)))
	all := make([]uint32, 27)
	for i := range all {
		all[i] = source.Uint32()
	}
	return of(seq, all)
}

// seqs are numbers of commits at which bits and bytes change.
func seqs() []uint64 {
	all := []uint64{0, 1, 2, 3, 4, 5, 255, 256, 257, 65535, 65536, 0x0102030405060708}
	for _, at := range []int{31, 32, 33, 48, 56, 63} {
		all = append(all, 1<<at-2, 1<<at-1, 1<<at, 1<<at+1)
	}
	return append(all, math.MaxUint64-2, math.MaxUint64-1, math.MaxUint64)
}

// supers are supers of all such numbers: of nothing else, of parts chosen at random, of all parts at their greatest, and of a part alone at each edge.
func supers() []api.Super {
	var all []api.Super
	for _, seq := range seqs() {
		all = append(all, api.Super{Seq: seq}, mixed(seq), of(seq, slices.Repeat([]uint32{math.MaxUint32}, 27)))
		for i := range 27 {
			for _, n := range []uint32{1, 2, 255, 256, 4096, 65535, 65536, 1 << 31, math.MaxUint32} {
				alone := make([]uint32, 27)
				alone[i] = n
				all = append(all, of(seq, alone))
			}
			but := slices.Repeat([]uint32{math.MaxUint32}, 27)
			but[i] = 0
			all = append(all, of(seq, but))
		}
	}
	return all
}

// checkRead reads a block, and holds what it says against what it should be.
func checkRead(t testing.TB, place int, b []byte, want api.Super) {
	t.Helper()
	if s, err := Read(place, b); err != api.OK || s != want {
		t.Errorf("Read(%d) answers %v and %d, not %v", place, s, err, want)
	}
}

// checkError reads what isn't such a block: an error alone.
func checkError(t testing.TB, place int, b []byte, want api.Errno) {
	t.Helper()
	if s, err := Read(place, b); err != want || s != (api.Super{}) {
		t.Errorf("Read(%d) of %d bytes answers %v and %d, not %d alone", place, len(b), s, err, want)
	}
}

// checkNewest asks for the newest of two blocks, and holds it against what it should be.
func checkNewest(t testing.TB, a, b []byte, want api.Super) {
	t.Helper()
	if s, err := Newest(a, b); err != api.OK || s != want {
		t.Errorf("the newest is %v (%d), not %v", s, err, want)
	}
}

// checkNone asks for the newest of two blocks of which neither says one: an error alone.
func checkNone(t testing.TB, a, b []byte) {
	t.Helper()
	if s, err := Newest(a, b); err != api.ErrNone || s != (api.Super{}) {
		t.Errorf("Newest answers %v and %d, not %d alone", s, err, api.ErrNone)
	}
}

// byWords is what Read should answer, by the chapter's words: a super's bytes are those that some super is laid as.
func byWords(place int, b []byte) (api.Super, api.Errno) {
	if place != 0 && place != 1 {
		return api.Super{}, api.ErrArg
	}
	if len(b) != 512 {
		return api.Super{}, api.ErrArg
	}
	if binary.BigEndian.Uint32(b) != sumOf(b[4:]) {
		return api.Super{}, api.ErrSum
	}
	if binary.BigEndian.Uint32(b[4:]) != uint32(place) {
		return api.Super{}, api.ErrRange
	}
	all := make([]uint32, 27)
	for i := range all {
		all[i] = binary.BigEndian.Uint32(b[20+4*i:])
	}
	s := of(binary.BigEndian.Uint64(b[12:]), all)
	if !bytes.Equal(laid(s), b) {
		return api.Super{}, api.ErrForm
	}
	return s, api.OK
}

// checkAny reads any bytes: the answer is the one by the chapter's words, and what is read is written as the same bytes.
func checkAny(t testing.TB, place int, b []byte) api.Errno {
	t.Helper()
	want, err := byWords(place, b)
	if err != api.OK {
		checkError(t, place, b, err)
		return err
	}
	checkRead(t, place, b, want)
	if s, _ := Read(place, b); !bytes.Equal(Write(s), b) {
		t.Errorf("%v, written again, isn't the same bytes", s)
	}
	return err
}

// checkBoth asks for the newest of any two blocks: the answer is the one by the chapter's words.
func checkBoth(t testing.TB, a, b []byte) {
	t.Helper()
	first, errFirst := byWords(0, a)
	second, errSecond := byWords(1, b)
	switch {
	case errFirst == api.OK && errSecond == api.OK && first.Seq > second.Seq:
		checkNewest(t, a, b, first)
	case errFirst == api.OK && errSecond == api.OK:
		checkNewest(t, a, b, second)
	case errFirst == api.OK:
		checkNewest(t, a, b, first)
	case errSecond == api.OK:
		checkNewest(t, a, b, second)
	default:
		checkNone(t, a, b)
	}
}

// P7.1: the chapter's examples.
func TestExamples(t *testing.T) {
	five := Write(api.Super{Seq: 5})
	if !bytes.Equal(five[4:8], []byte{0, 0, 0, 1}) {
		t.Errorf("Seq 5 stands in block %v, not 1", five[4:8])
	}
	checkRead(t, 1, five, api.Super{Seq: 5})
	checkError(t, 0, five, api.ErrRange)
	four := mixed(4)
	for _, b := range wrong(1) {
		checkNewest(t, Write(four), b, four)
	}
}

// P7.1: each part of a super stands in its place, the highest byte first.
func TestParts(t *testing.T) {
	s := api.Super{Seq: 0x0102030405060708, Blocks: 0x090a0b0c, List: 0x0d0e0f10, Free: 0x11121314}
	for i := range uint32(8) {
		at := 0x15161718 + 0x0c0c0c0c*i
		s.Roots[i] = api.Root{Page: at, Count: at + 0x04040404, Height: at + 0x08080808}
	}
	b := Write(s)
	if len(b) != 512 || !bytes.Equal(b[4:12], []byte{0, 0, 0, 0, 1, 0, 116, 0}) {
		t.Fatalf("%d bytes, ahead of the body %v", len(b), b[4:12])
	}
	for i := range 116 {
		if b[12+i] != byte(i+1) {
			t.Errorf("the body's byte %d is %d, not %d", i, b[12+i], i+1)
		}
	}
	if !bytes.Equal(b[128:], make([]byte, 384)) {
		t.Error("behind the body not all bytes are 0")
	}
	if sum := sumOf(b[4:]); binary.BigEndian.Uint32(b) != sum {
		t.Errorf("the sum is %x, not %08x", b[:4], sum)
	}
	checkRead(t, 0, b, s)
}

// P7.1: what is written are the page's bytes, and is read as the same super, at its place alone.
func TestThereAndBack(t *testing.T) {
	for _, s := range supers() {
		b := Write(s)
		if !bytes.Equal(b, laid(s)) {
			t.Errorf("%v: not its page's bytes", s)
		}
		place := int(s.Seq % 2)
		checkRead(t, place, b, s)
		checkError(t, 1-place, b, api.ErrRange)
		checkError(t, -1, b, api.ErrArg)
		checkError(t, 2, b, api.ErrArg)
		checkError(t, place+2, b, api.ErrArg)
	}
}

// P7.1: supers that say something else have other bytes.
func TestUnlikeSupers(t *testing.T) {
	seen := map[string]api.Super{}
	for _, s := range supers() {
		b := string(Write(s))
		if other, ok := seen[b]; ok && other != s {
			t.Fatalf("%v and %v have the same bytes", s, other)
		}
		seen[b] = s
	}
}

// otherPlaces are numbers that aren't a super's place, those among them of which the lowest bits are one's.
func otherPlaces() []int {
	return []int{math.MinInt, math.MinInt + 1, -1 << 31, -256, -255, -3, -2, -1, 2, 3, 4, 5, 255, 256, 257, 1<<31 - 1, math.MaxInt/2 + 1, math.MaxInt/2 + 2, math.MaxInt - 1, math.MaxInt}
}

// P7.1: places below 0 and above 1 are none, whatever the block is.
func TestOtherPlaces(t *testing.T) {
	for _, place := range otherPlaces() {
		for _, s := range []api.Super{{}, {Seq: 1}, mixed(4), mixed(5)} {
			checkError(t, place, laid(s), api.ErrArg)
			checkError(t, place, sealed(uint32(place), 1, bodyOf(s)), api.ErrArg)
			checkError(t, place, changed(laid(s), 0, 1), api.ErrArg)
		}
		checkError(t, place, nil, api.ErrArg)
		checkError(t, place, make([]byte, 512), api.ErrArg)
	}
}

// P7.1: blocks of another length aren't read, not even if they begin with a super's page.
func TestOtherLengths(t *testing.T) {
	for place := range 2 {
		b := laid(mixed(uint64(place)))
		for _, n := range []int{0, 1, 12, 116, 128, 500, 511} {
			checkError(t, place, b[:n], api.ErrArg)
			checkError(t, place, make([]byte, n), api.ErrArg)
			checkNone(t, b[:n], b[:n])
		}
		checkError(t, place, nil, api.ErrArg)
		for _, n := range []int{1, 2, 512, 1 << 16} {
			checkError(t, place, slices.Concat(b, make([]byte, n)), api.ErrArg)
		}
		checkError(t, place, bodyOf(mixed(uint64(place))), api.ErrArg)
		checkRead(t, place, b, mixed(uint64(place)))
	}
	checkNone(t, nil, nil)
	checkNone(t, []byte{}, make([]byte, 513))
}

// P7.1: a sum that isn't right, by a change of one byte at every place of a block.
func TestOtherSums(t *testing.T) {
	for place := range 2 {
		b := laid(mixed(uint64(place)))
		for at := range 512 {
			for _, by := range []byte{1, 16, 128, 255} {
				checkError(t, place, changed(b, at, by), api.ErrSum)
			}
		}
		checkError(t, place, make([]byte, 512), api.ErrSum)
		checkError(t, place, bytes.Repeat([]byte{255}, 512), api.ErrSum)
		checkError(t, place, summed(b)[:511], api.ErrArg)
		checkRead(t, place, summed(b), mixed(uint64(place)))
	}
}

// P7.1: a page of another number, the other place's too, is layer 6's ErrRange.
func TestOtherNumbers(t *testing.T) {
	for place := range 2 {
		for _, number := range []uint32{uint32(1 - place), 2, 3, 255, 256, 65536, 1 << 24, 1 << 31, math.MaxUint32 - 1, math.MaxUint32} {
			for _, seq := range []uint64{0, 1, 4, 5, uint64(number)} {
				checkError(t, place, sealed(number, 1, bodyOf(mixed(seq))), api.ErrRange)
			}
		}
	}
}

// P7.1: what has its sum and its number, and isn't a page's bytes, is layer 6's ErrForm.
func TestOtherForms(t *testing.T) {
	for place := range 2 {
		b := laid(mixed(uint64(place)))
		checkError(t, place, summed(changed(b, 11, 1)), api.ErrForm)
		checkError(t, place, summed(changed(b, 9, 255)), api.ErrForm)
		for at := 128; at < 512; at++ {
			checkError(t, place, summed(changed(b, at, 1)), api.ErrForm)
		}
	}
}

// P7.1: a page of every other kind.
func TestOtherKinds(t *testing.T) {
	for place := range 2 {
		s := mixed(uint64(place))
		for kind := range 256 {
			if kind == 1 {
				checkRead(t, place, sealed(uint32(place), byte(kind), bodyOf(s)), s)
			} else {
				checkError(t, place, sealed(uint32(place), byte(kind), bodyOf(s)), api.ErrForm)
			}
		}
	}
}

// P7.1: bodies of every other length, such as begin with a super's, or are its beginning, and such as are bytes 0.
func TestOtherBodies(t *testing.T) {
	for place := range 2 {
		s := mixed(uint64(place))
		full := slices.Concat(bodyOf(s), make([]byte, 384))
		for n := range api.MaxBody + 1 {
			if n == 116 {
				checkRead(t, place, sealed(uint32(place), 1, full[:n]), s)
				continue
			}
			checkError(t, place, sealed(uint32(place), 1, full[:n]), api.ErrForm)
			checkError(t, place, sealed(uint32(place), 1, make([]byte, n)), api.ErrForm)
		}
	}
}

// P7.1: a Seq that has another place than its page.
func TestOtherTurns(t *testing.T) {
	for _, s := range supers() {
		place := int(s.Seq % 2)
		checkError(t, 1-place, sealed(uint32(1-place), 1, bodyOf(s)), api.ErrForm)
		checkRead(t, place, sealed(uint32(place), 1, bodyOf(s)), s)
	}
}

// The faults that a block may have, in the order in which they are answered.
const (
	faultPlace = 1 << iota
	faultLength
	faultSum
	faultNumber
	faultForm
	faultKind
	faultBody
	faultTurn
	allFaults
)

// faulty is a place, and a block that has just these faults there; wrong lengths are wrong by so many bytes.
func faulty(place, faults, by int) (int, []byte) {
	number, kind, seq, asked := uint32(place), byte(1), uint64(place)+6, place
	if faults&faultTurn != 0 {
		seq++
	}
	body := bodyOf(mixed(seq))
	if faults&faultBody != 0 {
		body = slices.Concat(body, []byte{9})[:116+by]
	}
	if faults&faultKind != 0 {
		kind = api.KindList
	}
	if faults&faultNumber != 0 {
		number = 1 - number
	}
	b := sealed(number, kind, body)
	if faults&faultForm != 0 {
		b = summed(changed(b, 511, 1))
	}
	if faults&faultSum != 0 {
		b = changed(b, 0, 1)
	}
	if faults&faultLength != 0 {
		b = slices.Concat(b, []byte{0})[:512+by]
	}
	if faults&faultPlace != 0 {
		asked += 2
	}
	return asked, b
}

// R2: where several errors apply, in every choice of them, the answer is the first one.
func TestWhichFirst(t *testing.T) {
	for faults := range allFaults {
		want := api.OK
		switch {
		case faults&(faultPlace|faultLength) != 0:
			want = api.ErrArg
		case faults&faultSum != 0:
			want = api.ErrSum
		case faults&faultNumber != 0:
			want = api.ErrRange
		case faults != 0:
			want = api.ErrForm
		}
		for place := range 2 {
			for _, by := range []int{-1, 1} {
				asked, b := faulty(place, faults, by)
				if want == api.OK {
					checkRead(t, asked, b, mixed(uint64(place)+6))
				} else {
					checkError(t, asked, b, want)
				}
				if got := checkAny(t, asked, b); got != want {
					t.Errorf("the faults %b are %d by the chapter's words, not %d", faults, got, want)
				}
			}
		}
	}
}

// wrong are blocks that say no super at a place: one with each fault, and some that are nothing like a super.
func wrong(place int) [][]byte {
	all := [][]byte{nil, {}, {1}, make([]byte, 511), make([]byte, 512), make([]byte, 513), bytes.Repeat([]byte{255}, 512)}
	for faults := faultLength; faults < allFaults; faults <<= 1 {
		for _, by := range []int{-1, 1} {
			_, b := faulty(place, faults, by)
			all = append(all, b)
		}
	}
	for _, seq := range []uint64{0, 1, 2, math.MaxUint64 - 1, math.MaxUint64} {
		b := laid(mixed(seq))
		all = append(all, b[:511], slices.Concat(b, []byte{0}), changed(b, 0, 1), changed(b, 40, 1), changed(b, 511, 1))
		all = append(all, summed(changed(b, 11, 1)), summed(changed(b, 511, 1)), sealed(uint32(place), 2, bodyOf(mixed(seq))))
		all = append(all, sealed(uint32(place), 1, nil), sealed(uint32(place), 1, bodyOf(mixed(seq))[:115]), sealed(uint32(place), 1, slices.Concat(bodyOf(mixed(seq)), []byte{0})))
		other := uint64(1-place) + seq&^1
		all = append(all, laid(mixed(other)), sealed(uint32(place), 1, bodyOf(mixed(other))))
	}
	return all
}

// P7.1: the newest of two that are right is the one with the greater Seq, wherever it stands.
func TestNewestOfBoth(t *testing.T) {
	for _, even := range seqs() {
		for _, odd := range seqs() {
			if even%2 != 0 || odd%2 != 1 {
				continue
			}
			first, second := mixed(even), mixed(odd)
			if even > odd {
				checkNewest(t, laid(first), laid(second), first)
			} else {
				checkNewest(t, laid(first), laid(second), second)
			}
			checkNone(t, laid(second), laid(first))
		}
	}
}

// P7.1: what else the supers say has no part in which is the newest.
func TestNewestBySeqAlone(t *testing.T) {
	great := slices.Repeat([]uint32{math.MaxUint32}, 27)
	for _, seq := range []uint64{0, 1, 2, 1<<32 - 1, 1 << 32, math.MaxUint64 - 1} {
		blocks := [2][]byte{}
		blocks[seq%2] = laid(of(seq, great))
		blocks[(seq+1)%2] = laid(api.Super{Seq: seq + 1})
		checkNewest(t, blocks[0], blocks[1], api.Super{Seq: seq + 1})
	}
}

// P7.1: if one of them is right, that is the newest, of Seq 0 too; if neither is, there is none.
func TestNewestOfOne(t *testing.T) {
	for _, seq := range seqs() {
		s := mixed(seq)
		for _, b := range wrong(int(1 - seq%2)) {
			if seq%2 == 0 {
				checkNewest(t, laid(s), b, s)
			} else {
				checkNewest(t, b, laid(s), s)
			}
		}
	}
	checkNewest(t, laid(api.Super{}), nil, api.Super{})
	checkNewest(t, nil, laid(api.Super{Seq: 1}), api.Super{Seq: 1})
	for _, a := range wrong(0) {
		for _, b := range wrong(1) {
			checkNone(t, a, b)
		}
	}
}

// P7.2: of two commits, one behind the other, the pages have other blocks, and neither is read in the other one's.
func TestTurns(t *testing.T) {
	for _, seq := range seqs() {
		if seq == math.MaxUint64 {
			continue
		}
		earlier, later := Write(mixed(seq)), Write(mixed(seq+1))
		if bytes.Equal(earlier[4:8], later[4:8]) {
			t.Errorf("Seq %d and %d both stand in block %v", seq, seq+1, later[4:8])
		}
		checkRead(t, int(seq%2), earlier, mixed(seq))
		checkRead(t, int((seq+1)%2), later, mixed(seq+1))
		checkError(t, int(seq%2), later, api.ErrRange)
		checkError(t, int((seq+1)%2), earlier, api.ErrRange)
	}
}

// placeOf is the block that a super's page says it stands in.
func placeOf(t testing.TB, b []byte) int {
	t.Helper()
	n := binary.BigEndian.Uint32(b[4:])
	if n > 1 {
		t.Fatalf("a super stands in block %d", n)
	}
	return int(n)
}

// P7.2: in a row of commits, each super being written where its page says, the block of the one ahead stays as it is, and the newest is always the one that was written last.
func TestRowOfCommits(t *testing.T) {
	for _, start := range []uint64{0, 1, 2, 1<<32 - 20, math.MaxUint64 - 40} {
		var blocks [2][512]byte
		checkNone(t, blocks[0][:], blocks[1][:])
		for seq := start; seq < start+40; seq++ {
			b := Write(mixed(seq))
			was := blocks
			place := placeOf(t, b)
			copy(blocks[place][:], b)
			if seq > start && !bytes.Equal(blocks[(seq-1)%2][:], laid(mixed(seq-1))) {
				t.Errorf("Seq %d has changed the block of %d", seq, seq-1)
			}
			if blocks[1-place] != was[1-place] {
				t.Errorf("Seq %d has changed another block than its own", seq)
			}
			checkNewest(t, blocks[0][:], blocks[1][:], mixed(seq))
		}
	}
}

// checkEarlier asks for the newest, a super being right and something else standing in the block of the one behind it: if that isn't right itself, the earlier one is the newest.
func checkEarlier(t testing.TB, seq uint64, other []byte) bool {
	t.Helper()
	earlier := mixed(seq)
	blocks := [2][]byte{}
	blocks[seq%2] = Write(earlier)
	blocks[1-seq%2] = other
	if _, err := byWords(int(1-seq%2), other); err == api.OK {
		checkBoth(t, blocks[0], blocks[1])
		return false
	}
	checkNewest(t, blocks[0], blocks[1], earlier)
	return true
}

// P7.2: whatever is lost of the later one's super, from any byte on, or up to any byte, over the one that stood there ahead or over bytes 0: the earlier one is the newest, unless the later one is there as a whole.
func TestTornSupers(t *testing.T) {
	for _, seq := range []uint64{1, 2, 3, 4, 255, 256, 1<<32 - 1, 1 << 32} {
		later := Write(mixed(seq + 1))
		for _, under := range [][]byte{make([]byte, 512), Write(mixed(seq - 1)), bytes.Repeat([]byte{255}, 512)} {
			for n := range 513 {
				front := slices.Concat(later[:n], under[n:])
				back := slices.Concat(under[:n], later[n:])
				for _, b := range [][]byte{front, back} {
					old := bytes.Equal(b, laid(mixed(seq-1)))
					whole := bytes.Equal(b, later)
					if !checkEarlier(t, seq, b) && !old && !whole {
						t.Errorf("Seq %d: a super of which a part was lost is right", seq+1)
					}
				}
			}
		}
	}
}

// P7.2: whatever else stands in the later one's block, if it isn't right itself, the earlier one is the newest.
func TestEarlierStays(t *testing.T) {
	source := rand.New(rand.NewSource(72))
	for _, seq := range []uint64{0, 1, 2, 5, 1 << 32, math.MaxUint64 - 1} {
		for _, b := range wrong(int(1 - seq%2)) {
			if !checkEarlier(t, seq, b) {
				t.Errorf("Seq %d: a wrong block is taken as right", seq)
			}
		}
		later := laid(mixed(seq + 1))
		for at := range 512 {
			for _, by := range []byte{1, 128, 255} {
				checkEarlier(t, seq, changed(later, at, by))
				checkEarlier(t, seq, summed(changed(later, at, by)))
			}
		}
		for range 500 {
			b := make([]byte, 512)
			source.Read(b)
			checkEarlier(t, seq, b)
			checkEarlier(t, seq, summed(b))
		}
	}
}

// P7.1: of blocks near supers, most of whose sums are right, each is answered as said, alone and as one of two.
func TestNearSupers(t *testing.T) {
	source := rand.New(rand.NewSource(7))
	seen := map[api.Errno]int{}
	near := func() []byte {
		b := laid(mixed(seqs()[source.Intn(len(seqs()))]))
		for range source.Intn(3) {
			at := []int{4, 7, 8, 9, 10, 11, 12, 19, 19, 127, 128, 511}[source.Intn(12)]
			b[at] = []byte{0, 1, 2, 115, 116, 117, byte(source.Intn(256))}[source.Intn(7)]
		}
		if source.Intn(8) > 0 {
			b = summed(b)
		}
		return b
	}
	for range 10000 {
		a, b := near(), near()
		seen[checkAny(t, source.Intn(2), a)]++
		seen[checkAny(t, source.Intn(4)-1, b)]++
		checkBoth(t, a, b)
	}
	for _, err := range []api.Errno{api.OK, api.ErrArg, api.ErrSum, api.ErrRange, api.ErrForm} {
		if seen[err] < 100 {
			t.Errorf("%d was answered %d times only", err, seen[err])
		}
	}
}

// R3: bytes that are handed in aren't changed, nor is what lies behind them in memory.
func TestHandedInStays(t *testing.T) {
	for place := range 2 {
		for _, b := range append(wrong(place), laid(mixed(uint64(place)))) {
			room := slices.Concat(b, []byte{1, 2, 3})
			was := slices.Clone(room)
			Read(place, room[:len(b)])
			Read(1-place, room[:len(b)])
			Newest(room[:len(b)], room[:len(b)])
			if !bytes.Equal(room, was) {
				t.Errorf("%d bytes were changed", len(b))
			}
		}
	}
}

// spoil writes over bytes, and over all that lies behind them in their memory.
func spoil(b []byte) {
	b = b[:cap(b)]
	for i := range b {
		b[i] ^= 255
	}
}

// R3: bytes that were handed in aren't kept, and bytes that were told are no other answer's: whoever writes into them changes nothing.
func TestToldIsNew(t *testing.T) {
	for _, seq := range seqs() {
		a, b := Write(mixed(seq)), Write(mixed(seq))
		place := int(seq % 2)
		s, err := Read(place, a)
		newest, errNewest := Newest(a, a)
		spoil(a)
		if err != api.OK || s != mixed(seq) || errNewest != api.OK || newest != s {
			t.Errorf("Seq %d: what was told has changed with its block (%d, %d)", seq, err, errNewest)
		}
		if !bytes.Equal(b, laid(mixed(seq))) || !bytes.Equal(Write(mixed(seq)), b) {
			t.Errorf("Seq %d: its page is somebody else's", seq)
		}
		s.Roots[3].Page++
		checkRead(t, place, b, mixed(seq))
	}
}

// R5: the same arguments are answered the same way, whatever was asked between.
func TestNothingIsKept(t *testing.T) {
	four, five := laid(mixed(4)), laid(mixed(5))
	for i, b := range append(wrong(0), wrong(1)...) {
		Write(mixed(uint64(i) + 100))
		Read(i%4-1, b)
		Newest(b, laid(mixed(math.MaxUint64)))
		if !bytes.Equal(Write(mixed(4)), four) {
			t.Error("another page is told")
		}
		checkRead(t, 0, four, mixed(4))
		checkError(t, 1, four, api.ErrRange)
		checkNewest(t, four, five, mixed(5))
		checkNone(t, five, four)
	}
}

// P7.1, of any super.
func FuzzWrite(f *testing.F) {
	f.Add(uint64(5), []byte(nil))
	f.Add(uint64(0), bytes.Repeat([]byte{255}, 108))
	f.Add(uint64(math.MaxUint64), make([]byte, 108))
	f.Fuzz(func(t *testing.T, seq uint64, parts []byte) {
		full := make([]byte, 108)
		copy(full, parts)
		all := make([]uint32, 27)
		for i := range all {
			all[i] = binary.BigEndian.Uint32(full[4*i:])
		}
		s := of(seq, all)
		b := Write(s)
		if !bytes.Equal(b, laid(s)) {
			t.Errorf("%v: not its page's bytes", s)
		}
		checkRead(t, int(seq%2), b, s)
		checkError(t, int(1-seq%2), b, api.ErrRange)
	})
}

// P7.1, of any place and bytes, as they are, and with their sum put right.
func FuzzRead(f *testing.F) {
	f.Add(0, laid(mixed(4)))
	f.Add(1, laid(mixed(5)))
	f.Add(2, laid(mixed(4)))
	f.Add(-1, []byte(nil))
	f.Add(0, sealed(0, 1, bodyOf(mixed(5))))
	f.Add(1, sealed(1, 1, make([]byte, 117)))
	f.Fuzz(func(t *testing.T, place int, b []byte) {
		whole := make([]byte, 512)
		copy(whole, b)
		whole = summed(whole)
		for _, at := range []int{place, 0, 1} {
			checkAny(t, at, b)
			checkAny(t, at, whole)
		}
	})
}

// P7.1 and P7.2, of any two blocks.
func FuzzNewest(f *testing.F) {
	f.Add(laid(mixed(4)), laid(mixed(5)))
	f.Add(laid(mixed(4)), []byte(nil))
	f.Add(make([]byte, 512), laid(mixed(5)))
	f.Add([]byte(nil), make([]byte, 513))
	f.Fuzz(func(t *testing.T, a, b []byte) {
		checkBoth(t, a, b)
		for _, seq := range []uint64{0, 1, 4, 5} {
			checkEarlier(t, seq, a)
			checkEarlier(t, seq, b)
		}
	})
}
