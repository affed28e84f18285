package page

import (
	"bytes"
	"encoding/binary"
	"hash/crc32"
	"math/bits"
	"math/rand"
	"slices"
	"testing"

	"cashbook/api"
)

// sumOf is the sum as the library has it.
func sumOf(b []byte) uint32 { return crc32.Checksum(b, crc32.MakeTable(crc32.Castagnoli)) }

// laid are a page's bytes by the chapter's words, part behind part.
func laid(number uint32, kind byte, body []byte) []byte {
	rest := binary.BigEndian.AppendUint32(nil, number)
	rest = append(rest, kind)
	rest = binary.BigEndian.AppendUint16(rest, uint16(len(body)))
	rest = append(rest, 0)
	rest = append(rest, body...)
	rest = append(rest, make([]byte, 508-len(rest))...)
	return append(binary.BigEndian.AppendUint32(nil, sumOf(rest)), rest...)
}

// summed are a block's bytes, with their sum put right.
func summed(b []byte) []byte {
	other := slices.Clone(b)
	binary.BigEndian.PutUint32(other, sumOf(other[4:]))
	return other
}

// changed is b with bytes made one with those at a place.
func changed(b []byte, at int, by ...byte) []byte {
	other := slices.Clone(b)
	for i, c := range by {
		other[at+i] ^= c
	}
	return other
}

// written is b with bytes written over those at a place.
func written(b []byte, at int, c ...byte) []byte {
	other := slices.Clone(b)
	copy(other[at:], c)
	return other
}

// mixed are so many bytes chosen at random.
func mixed(n int) []byte {
	b := make([]byte, n)
	rand.New(rand.NewSource(int64(n))).Read(b)
	return b
}

// bodies are bodies of a length: none of it 0, all of it 0, all of it 255, mixed, and 0 at both ends.
func bodies(n int) [][]byte {
	all := [][]byte{bytes.Repeat([]byte{7}, n), make([]byte, n), bytes.Repeat([]byte{255}, n), mixed(n)}
	if n > 0 {
		all = append(all, written(written(mixed(n), 0, 0), n-1, 0))
	}
	return all
}

// numbers are pages' numbers at which bits and bytes change.
func numbers() []uint32 {
	return []uint32{0, 1, 2, 7, 255, 256, 4095, 65535, 65536, 1<<24 - 1, 1 << 24, 0x01020304, 1<<31 - 1, 1 << 31, 1<<32 - 2, 1<<32 - 1}
}

// made is a page.
func made(t testing.TB, number uint32, kind byte, body []byte) []byte {
	t.Helper()
	b, err := Seal(number, kind, body)
	if err != api.OK {
		t.Fatalf("Seal(%d, %d, %d bytes) answers %d", number, kind, len(body), err)
	}
	return b
}

// checkOpened opens a page, and holds what it says against what it should be.
func checkOpened(t testing.TB, number uint32, b []byte, kind byte, body []byte) {
	t.Helper()
	k, x, err := Open(number, b)
	if err != api.OK || k != kind || !bytes.Equal(x, body) {
		t.Errorf("Open(%d) answers the kind %d, %d bytes and %d, not %d, %d bytes", number, k, len(x), err, kind, len(body))
	}
}

// checkError opens what isn't such a page: an error alone.
func checkError(t testing.TB, number uint32, b []byte, want api.Errno) {
	t.Helper()
	if k, x, err := Open(number, b); err != want || k != 0 || len(x) != 0 {
		t.Errorf("Open(%d) of %d bytes answers the kind %d, %d bytes and %d, not %d alone", number, len(b), k, len(x), err, want)
	}
}

// P6.1: the chapter's example.
func TestExample(t *testing.T) {
	b := made(t, 7, 3, []byte{9})
	if want := []byte{0, 0, 0, 7, 3, 0, 1, 0, 9}; !bytes.Equal(b[4:13], want) {
		t.Errorf("it begins, behind the sum, with %v, not %v", b[4:13], want)
	}
	if !bytes.Equal(b[13:], make([]byte, 499)) {
		t.Error("behind the body not all bytes are 0")
	}
	if sum := sumOf(b[4:]); binary.BigEndian.Uint32(b) != sum {
		t.Errorf("the sum is %x, not %08x", b[:4], sum)
	}
	checkOpened(t, 7, b, 3, []byte{9})
}

// P6.1: each part of a page stands in its place, the highest byte first.
func TestPlaces(t *testing.T) {
	body := bytes.Repeat([]byte{9}, 258)
	b := made(t, 0x0a0b0c0d, 14, body)
	if want := []byte{0x0a, 0x0b, 0x0c, 0x0d, 14, 1, 2, 0}; len(b) != 512 || !bytes.Equal(b[4:12], want) {
		t.Errorf("%d bytes, behind the sum %v, not %v", len(b), b[4:12], want)
	}
	if !bytes.Equal(b[12:270], body) || !bytes.Equal(b[270:], make([]byte, 242)) {
		t.Error("the body isn't in its place")
	}
}

// P6.1: bodies of every length that a page may have.
func TestEveryLength(t *testing.T) {
	for n := range api.MaxBody + 1 {
		for _, body := range bodies(n) {
			b := made(t, 258, 4, body)
			if !bytes.Equal(b, laid(258, 4, body)) {
				t.Errorf("a body of %d bytes: not a page's bytes", n)
			}
			checkOpened(t, 258, b, 4, body)
		}
	}
}

// P6.1: every kind, and numbers at the edges.
func TestKindsAndNumbers(t *testing.T) {
	for _, number := range numbers() {
		for kind := range 256 {
			for _, n := range []int{0, 1, 255, 256, 500} {
				body := mixed(n)
				b := made(t, number, byte(kind), body)
				if !bytes.Equal(b, laid(number, byte(kind), body)) {
					t.Errorf("number %d, kind %d, %d bytes: not a page's bytes", number, kind, n)
				}
				checkOpened(t, number, b, byte(kind), body)
			}
		}
	}
}

// P6.1: bodies that are too long, at the edge and far above it, also by as much as two bytes count.
func TestTooLong(t *testing.T) {
	for _, n := range []int{501, 502, 511, 512, 513, 1000, 65535, 65536, 65537, 66036, 1 << 20} {
		for _, number := range []uint32{0, 1<<32 - 1} {
			if b, err := Seal(number, 255, make([]byte, n)); err != api.ErrLong || len(b) != 0 {
				t.Errorf("a body of %d bytes: %d bytes and %d, not %d alone", n, len(b), err, api.ErrLong)
			}
		}
	}
	for _, n := range []int{499, 500} {
		if b, err := Seal(0, 0, make([]byte, n)); err != api.OK || len(b) != 512 {
			t.Errorf("a body of %d bytes: %d bytes and %d", n, len(b), err)
		}
	}
}

// R4: no body, nil or empty, is the same.
func TestNoBody(t *testing.T) {
	a, b := made(t, 5, 6, nil), made(t, 5, 6, []byte{})
	if !bytes.Equal(a, b) || !bytes.Equal(a, laid(5, 6, nil)) {
		t.Error("nil and empty are unlike")
	}
	checkOpened(t, 5, a, 6, nil)
}

// P6.1: blocks of another length aren't opened, not even if they begin with a page.
func TestOtherLengths(t *testing.T) {
	b := made(t, 0, 0, nil)
	for _, n := range []int{0, 1, 3, 4, 11, 12, 500, 511} {
		checkError(t, 0, b[:n], api.ErrArg)
		checkError(t, 0, make([]byte, n), api.ErrArg)
	}
	checkError(t, 0, nil, api.ErrArg)
	for _, n := range []int{1, 2, 512, 1 << 16, 1 << 20} {
		checkError(t, 0, slices.Concat(b, make([]byte, n)), api.ErrArg)
	}
	checkError(t, 0, slices.Concat(b, b), api.ErrArg)
	checkOpened(t, 0, b, 0, nil)
}

// P6.1: a sum that isn't that of what is behind.
func TestOtherSums(t *testing.T) {
	b := made(t, 9, 2, []byte("cash"))
	sum := binary.BigEndian.Uint32(b)
	others := []uint32{0, 1, 1<<32 - 1, sum + 1, sum - 1, ^sum, bits.ReverseBytes32(sum), bits.Reverse32(sum), sumOf(b), sumOf(b[:508]), sumOf(b[5:]), sumOf(b[4:16]), crc32.ChecksumIEEE(b[4:])}
	for _, other := range others {
		if other == sum {
			t.Fatalf("%08x is the page's own", other)
		}
		checkError(t, 9, written(b, 0, binary.BigEndian.AppendUint32(nil, other)...), api.ErrSum)
	}
	checkError(t, 0, make([]byte, 512), api.ErrSum)
	checkError(t, 1<<32-1, bytes.Repeat([]byte{255}, 512), api.ErrSum)
	checkOpened(t, 9, b, 2, []byte("cash"))
}

// P6.1: a page of another number, also of one that is unlike in one bit alone, or whose bytes stand the other way round.
func TestOtherNumbers(t *testing.T) {
	for _, number := range numbers() {
		b := made(t, number, 3, []byte{1, 2})
		for _, other := range numbers() {
			if other != number {
				checkError(t, other, b, api.ErrRange)
			}
		}
		for i := range 32 {
			checkError(t, number^1<<i, b, api.ErrRange)
		}
		if other := bits.ReverseBytes32(number); other != number {
			checkError(t, other, b, api.ErrRange)
		}
	}
}

// P6.1: every length that two bytes tell, of a page whose bytes have their right sum: those above 500 aren't a page's, nor are those that a byte behind the body doesn't agree with.
func TestEveryToldLength(t *testing.T) {
	for _, body := range [][]byte{nil, {1}, make([]byte, 500), append(make([]byte, 255), 1), append(make([]byte, 256), 1), append(make([]byte, 499), 1), bytes.Repeat([]byte{255}, 500)} {
		needed := len(bytes.TrimRight(body, "\x00"))
		b := laid(7, 8, body)
		for n := range 1 << 16 {
			other := summed(written(b, 9, byte(n>>8), byte(n)))
			if n < needed || n > 500 {
				checkError(t, 7, other, api.ErrForm)
			} else {
				checkOpened(t, 7, other, 8, other[12:12+n])
			}
		}
	}
}

// P6.1: a byte that isn't 0 ahead of the body, or at any place behind it, with its sum put right.
func TestNoughts(t *testing.T) {
	for _, n := range []int{0, 1, 2, 255, 256, 498, 499, 500} {
		for _, body := range bodies(n) {
			b := laid(3, 4, body)
			for _, by := range []byte{1, 128, 255} {
				checkError(t, 3, summed(changed(b, 11, by)), api.ErrForm)
				for at := 12 + n; at < 512; at++ {
					checkError(t, 3, summed(changed(b, at, by)), api.ErrForm)
				}
				for at := 12; at < 12+n; at++ {
					other := summed(changed(b, at, by))
					checkOpened(t, 3, other, 4, other[12:12+n])
				}
			}
		}
	}
	b := laid(3, 4, []byte("ab"))
	for c := 1; c < 256; c++ {
		checkError(t, 3, summed(written(b, 11, byte(c))), api.ErrForm)
		checkError(t, 3, summed(written(b, 14, byte(c))), api.ErrForm)
	}
}

// R2: where several errors apply, the answer is the first one: a length of the block, the sum, the number, the form.
func TestWhichFirst(t *testing.T) {
	b := laid(1, 2, []byte("ab"))
	form := changed(b, 11, 1)
	long := changed(b, 9, 255)
	behind := changed(b, 511, 1)
	for _, wrong := range [][]byte{form, long, behind} {
		checkError(t, 2, wrong[:511], api.ErrArg)
		checkError(t, 2, summed(wrong)[:511], api.ErrArg)
		checkError(t, 2, append(slices.Clone(wrong), 0), api.ErrArg)
		checkError(t, 2, wrong, api.ErrSum)
		checkError(t, 1, wrong, api.ErrSum)
		checkError(t, 2, summed(wrong), api.ErrRange)
		checkError(t, 1, summed(wrong), api.ErrForm)
	}
	checkError(t, 2, b[:511], api.ErrArg)
	checkError(t, 2, changed(b, 20, 1), api.ErrSum)
	checkError(t, 2, b, api.ErrRange)
	checkOpened(t, 1, b, 2, []byte("ab"))
}

// byWords is what Open should answer, by the chapter's words: a page's bytes are those that some kind and body are laid as.
func byWords(number uint32, b []byte) (byte, []byte, api.Errno) {
	if len(b) != 512 {
		return 0, nil, api.ErrArg
	}
	if binary.BigEndian.Uint32(b) != sumOf(b[4:]) {
		return 0, nil, api.ErrSum
	}
	if binary.BigEndian.Uint32(b[4:]) != number {
		return 0, nil, api.ErrRange
	}
	n := binary.BigEndian.Uint16(b[9:])
	if n > 500 || !bytes.Equal(laid(number, b[8], b[12:12+n]), b) {
		return 0, nil, api.ErrForm
	}
	return b[8], b[12 : 12+n], api.OK
}

// checkAny opens any bytes: the answer is the one by the chapter's words, and what is opened is sealed as the same bytes.
func checkAny(t testing.TB, number uint32, b []byte) api.Errno {
	t.Helper()
	kind, body, want := byWords(number, b)
	if want != api.OK {
		checkError(t, number, b, want)
		return want
	}
	checkOpened(t, number, b, kind, body)
	k, x, _ := Open(number, b)
	if again, err := Seal(number, k, x); err != api.OK || !bytes.Equal(again, b) {
		t.Errorf("a page of the number %d, sealed again, isn't the same bytes (%d)", number, err)
	}
	return want
}

// P6.1 and P6.2: of blocks near pages, whose sums are right, each is answered as said, and each that is opened is sealed as the same bytes.
func TestOneWay(t *testing.T) {
	source := rand.New(rand.NewSource(6))
	seen := map[api.Errno]int{}
	for range 20000 {
		number := numbers()[source.Intn(len(numbers()))]
		body := mixed(source.Intn(501))
		b := laid(number, byte(source.Intn(256)), body)
		for range source.Intn(4) {
			at := []int{4, 5, 6, 7, 8, 9, 10, 11, 12 + len(body), 511}[source.Intn(10)]
			b[min(at, 511)] = []byte{0, 0, 1, 255, byte(source.Intn(256))}[source.Intn(5)]
		}
		if source.Intn(8) > 0 {
			b = summed(b)
		}
		seen[checkAny(t, number, b)]++
		seen[checkAny(t, binary.BigEndian.Uint32(b[4:]), b)]++
	}
	for _, err := range []api.Errno{api.OK, api.ErrSum, api.ErrRange, api.ErrForm} {
		if seen[err] < 100 {
			t.Errorf("%d was answered %d times only", err, seen[err])
		}
	}
}

// P6.2: pages that say something else have other bytes.
func TestUnlikePages(t *testing.T) {
	type said struct {
		number uint32
		kind   byte
		body   string
	}
	seen := map[string]said{}
	for _, number := range numbers() {
		for _, kind := range []byte{0, 1, 254, 255} {
			for n := range 20 {
				for _, c := range []byte{0, 1, 255} {
					s := said{number, kind, string(bytes.Repeat([]byte{c}, n))}
					b := string(made(t, s.number, s.kind, []byte(s.body)))
					if other, ok := seen[b]; ok && other != s {
						t.Fatalf("%#v and %#v have the same bytes", s, other)
					}
					seen[b] = s
				}
			}
		}
	}
}

// pages are pages of several kinds, with their numbers.
func pages(t testing.TB) map[uint32][]byte {
	return map[uint32][]byte{
		0:         made(t, 0, 0, nil),
		7:         made(t, 7, 3, []byte{9}),
		1 << 16:   made(t, 1<<16, 4, mixed(250)),
		1<<32 - 2: made(t, 1<<32-2, 1, make([]byte, 500)),
		1<<32 - 1: made(t, 1<<32-1, 255, bytes.Repeat([]byte{255}, 500)),
	}
}

// checkTold opens a page that was changed: it isn't opened.
func checkTold(t testing.TB, number uint32, b []byte, at int, by ...byte) {
	t.Helper()
	if k, x, err := Open(number, changed(b, at, by...)); err == api.OK || k != 0 || len(x) != 0 {
		t.Errorf("page %d, changed at %d by %v: opened (%d)", number, at, by, err)
	}
}

// P6.3: every change of one byte, at every place of a page.
func TestOneByteIsTold(t *testing.T) {
	for number, b := range pages(t) {
		for at := range 512 {
			for by := 1; by < 256; by++ {
				checkTold(t, number, b, at, byte(by))
			}
		}
	}
}

// P6.3: one bit and two bits within four bytes in a row, all of their bits, and changes chosen at random, at every place of a page.
func TestFourBytesAreTold(t *testing.T) {
	source := rand.New(rand.NewSource(63))
	for number, b := range pages(t) {
		for at := range 509 {
			all := []uint32{1<<32 - 1, 1<<24 - 1, 1<<16 - 1, 0x00ffff00, 0x80000001}
			for i := range 32 {
				all = append(all, 1<<i, 1<<i|1<<(i+5)%32, source.Uint32()|1<<i)
			}
			for _, by := range all {
				checkTold(t, number, b, at, binary.BigEndian.AppendUint32(nil, by)...)
			}
		}
	}
}

// P6.3: any change of four bytes behind the sum is told: Open goes by the sum of all that is behind it, to which the 32 single bits do 32 changes of which no choice, made one with each other, gives 0.
func TestEveryChangeIsTold(t *testing.T) {
	for number, b := range pages(t) {
		for at := 4; at < 509; at++ {
			var single [32]uint32
			for i := range single {
				other := changed(b, at, binary.BigEndian.AppendUint32(nil, 1<<i)...)
				single[i] = sumOf(other[4:]) ^ sumOf(b[4:])
				checkError(t, number, other, api.ErrSum)
				checkAny(t, number, summed(other))
			}
			if by, some := silent(single[:], 1<<32-1); some {
				t.Errorf("page %d, changed at %d by %08x: the same sum", number, at, by)
			}
		}
	}
}

// silent tells a choice of numbers that, made one with each other, are 0 in the bits of a mask.
func silent(all []uint32, mask uint32) (uint32, bool) {
	var led, chosen [32]uint32
	for i, x := range all {
		x &= mask
		choice := uint32(1) << i
		for x != 0 {
			top := bits.Len32(x) - 1
			if led[top] == 0 {
				led[top], chosen[top] = x, choice
				break
			}
			x ^= led[top]
			choice ^= chosen[top]
		}
		if x == 0 {
			return choice, true
		}
	}
	return 0, false
}

// P6.3: where the sum and the number are changed together the sum may be right again: it is the number, then, that tells.
func TestSumAndNumberTogether(t *testing.T) {
	found := 0
	for number, b := range pages(t) {
		for n := 1; n < 4; n++ {
			single := make([]uint32, 8*n)
			for i := range single {
				single[i] = sumOf(changed(b, 4+i/8, 1<<(i%8))[4:]) ^ sumOf(b[4:])
			}
			// Only the sum's last bytes, 4 - n of them, stand in one row of four with n bytes of the number.
			choice, some := silent(single, ^uint32(0)<<(8*(4-n)))
			if !some {
				continue
			}
			found++
			other := summed(changed(b, 4, byte(choice), byte(choice>>8), byte(choice>>16)))
			if !bytes.Equal(other[:n], b[:n]) || !bytes.Equal(other[4+n:], b[4+n:]) {
				t.Fatalf("page %d: more than four bytes in a row were changed", number)
			}
			checkError(t, number, other, api.ErrRange)
			checkAny(t, binary.BigEndian.Uint32(other[4:]), other)
		}
	}
	if found == 0 {
		t.Error("no such change was found")
	}
}

// P6.3: chosen at random, changes of up to four bytes in a row.
func TestRandomChangesAreTold(t *testing.T) {
	source := rand.New(rand.NewSource(36))
	for range 20000 {
		number := source.Uint32()
		b := made(t, number, byte(source.Intn(256)), mixed(source.Intn(501)))
		by := make([]byte, 1+source.Intn(4))
		source.Read(by)
		by[0] |= 1
		checkTold(t, number, b, source.Intn(513-len(by)), by...)
	}
}

// R3: bytes that are handed in aren't changed, nor is what lies behind them in memory.
func TestHandedInStays(t *testing.T) {
	for _, n := range []int{0, 1, 499, 500, 501, 512} {
		room := append(mixed(n), bytes.Repeat([]byte{5}, 600)...)
		was := slices.Clone(room)
		Seal(3, 4, room[:n])
		Open(3, room[:n])
		if !bytes.Equal(room, was) {
			t.Errorf("%d bytes were changed", n)
		}
	}
	for _, b := range [][]byte{laid(3, 4, mixed(100)), changed(laid(3, 4, mixed(100)), 0, 1), summed(changed(laid(3, 4, nil), 11, 1))} {
		room := append(slices.Clone(b), 1, 2, 3)
		was := slices.Clone(room)
		for _, number := range []uint32{3, 4} {
			Open(number, room[:512])
		}
		if !bytes.Equal(room, was) {
			t.Error("a block was changed")
		}
	}
}

// spoil writes over bytes, and over all that lies behind them in their memory.
func spoil(b []byte) {
	b = b[:cap(b)]
	for i := range b {
		b[i] ^= 255
	}
}

// R3: bytes that were handed in aren't kept: whoever writes into them later changes nothing.
func TestHandedInIsNotKept(t *testing.T) {
	for _, n := range []int{0, 1, 250, 500} {
		body := mixed(n)
		b := made(t, 3, 4, body)
		spoil(body)
		if !bytes.Equal(b, laid(3, 4, mixed(n))) {
			t.Errorf("a page of %d bytes has changed with its body", n)
		}
		_, x, err := Open(3, b)
		spoil(b)
		if err != api.OK || !bytes.Equal(x, mixed(n)) {
			t.Errorf("a body of %d bytes has changed with its page (%d)", n, err)
		}
	}
}

// R3: bytes that were told are no other answer's, and writing into them changes nothing.
func TestToldIsNew(t *testing.T) {
	for _, n := range []int{0, 1, 250, 500} {
		body := mixed(n)
		a, b := made(t, 3, 4, body), made(t, 3, 4, body)
		spoil(a)
		if !bytes.Equal(body, mixed(n)) || !bytes.Equal(b, laid(3, 4, body)) || !bytes.Equal(made(t, 3, 4, body), b) {
			t.Errorf("a page of %d bytes is somebody else's", n)
		}
		_, x, _ := Open(3, b)
		_, y, _ := Open(3, b)
		spoil(x)
		if !bytes.Equal(b, laid(3, 4, body)) || !bytes.Equal(y, body) {
			t.Errorf("a body of %d bytes is somebody else's", n)
		}
		checkOpened(t, 3, b, 4, body)
	}
}

// R5: the same arguments are answered the same way, whatever was asked between.
func TestNothingIsKept(t *testing.T) {
	b := made(t, 7, 3, []byte{9})
	for _, n := range []int{0, 1, 500, 501} {
		Seal(1<<32-1, 255, bytes.Repeat([]byte{255}, n))
		Open(7, changed(b, n, 1))
		if !bytes.Equal(made(t, 7, 3, []byte{9}), b) {
			t.Errorf("behind %d bytes another page is told", n)
		}
		checkOpened(t, 7, b, 3, []byte{9})
	}
}

// P6.1, of any number, kind and body.
func FuzzSeal(f *testing.F) {
	f.Add(uint32(7), byte(3), []byte{9})
	f.Add(uint32(0), byte(0), []byte(nil))
	f.Add(uint32(1<<32-1), byte(255), make([]byte, 500))
	f.Add(uint32(1), byte(1), make([]byte, 501))
	f.Fuzz(func(t *testing.T, number uint32, kind byte, body []byte) {
		b, err := Seal(number, kind, body)
		if len(body) > 500 {
			if err != api.ErrLong || len(b) != 0 {
				t.Errorf("%d bytes and %d", len(b), err)
			}
			return
		}
		if err != api.OK || !bytes.Equal(b, laid(number, kind, body)) {
			t.Errorf("not a page's bytes (%d)", err)
		}
		checkOpened(t, number, b, kind, body)
	})
}

// P6.1 and P6.2, of any bytes, as they are, and with their sum put right.
func FuzzOpen(f *testing.F) {
	f.Add(uint32(7), laid(7, 3, []byte{9}))
	f.Add(uint32(8), laid(7, 3, []byte{9}))
	f.Add(uint32(0), []byte(nil))
	f.Add(uint32(0), make([]byte, 511))
	f.Add(uint32(0), make([]byte, 513))
	f.Add(uint32(1<<32-1), bytes.Repeat([]byte{255}, 512))
	f.Fuzz(func(t *testing.T, number uint32, b []byte) {
		checkAny(t, number, b)
		whole := make([]byte, 512)
		copy(whole, b)
		whole = summed(whole)
		checkAny(t, number, whole)
		checkAny(t, binary.BigEndian.Uint32(whole[4:]), whole)
	})
}

// P6.3, of any page, place and change.
func FuzzChange(f *testing.F) {
	f.Add(uint32(7), byte(3), []byte{9}, 0, uint32(1))
	f.Add(uint32(0), byte(0), []byte(nil), 1, uint32(0x3f6a6de9))
	f.Add(uint32(1<<32-1), byte(255), make([]byte, 500), 508, uint32(1<<32-1))
	f.Fuzz(func(t *testing.T, number uint32, kind byte, body []byte, at int, by uint32) {
		if by == 0 {
			return
		}
		b := made(t, number, kind, body[:min(len(body), 500)])
		checkTold(t, number, b, min(max(at, 0), 508), binary.BigEndian.AppendUint32(nil, by)...)
	})
}
