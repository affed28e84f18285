package crc

import (
	"bytes"
	"hash/crc32"
	"math/bits"
	"math/rand"
	"slices"
	"testing"
)

// ruled is the sum by the chapter's own words, bit by bit, from the number r that stands ahead of the bytes.
func ruled(r uint32, b []byte) uint32 {
	for _, c := range b {
		r ^= uint32(c)
		for range 8 {
			low := r % 2
			r /= 2
			if low == 1 {
				r ^= 2197175160
			}
		}
	}
	return r ^ 4294967295
}

// library is the sum as the library has it.
func library(sum uint32, b []byte) uint32 {
	return crc32.Update(sum, crc32.MakeTable(crc32.Castagnoli), b)
}

// rows are rows of bytes at the edges: none, each one byte, bytes 0 and 255 in rows of many lengths, and mixed ones.
func rows() [][]byte {
	all := [][]byte{nil, {}}
	for c := range 256 {
		all = append(all, []byte{byte(c)})
	}
	source := rand.New(rand.NewSource(4))
	for _, n := range []int{1, 2, 3, 4, 5, 7, 8, 9, 15, 16, 17, 31, 32, 33, 63, 64, 65, 255, 256, 257, 1000, 4095, 4096, 4097} {
		mixed := make([]byte, n)
		source.Read(mixed)
		rising := make([]byte, n)
		for i := range rising {
			rising[i] = byte(i)
		}
		all = append(all, bytes.Repeat([]byte{0}, n), bytes.Repeat([]byte{255}, n), bytes.Repeat([]byte{0, 255}, n), rising, mixed)
	}
	return all
}

// sums are numbers at which bits, halves of bytes and bytes change.
func sums() []uint32 {
	all := []uint32{0, 1, 15, 16, 255, 256, 0xe3069283, 2197175160, 1<<31 - 1, 1 << 31, 1<<32 - 2, 1<<32 - 1}
	for i := range 32 {
		all = append(all, 1<<i, ^uint32(1<<i))
	}
	return all
}

// P4.1: the chapter's examples, and sums that are known of CRC-32C.
func TestExamples(t *testing.T) {
	rising := make([]byte, 32)
	falling := make([]byte, 32)
	for i := range 32 {
		rising[i] = byte(i)
		falling[i] = byte(31 - i)
	}
	for _, c := range []struct {
		name string
		b    []byte
		want uint32
	}{
		{"123456789", []byte("123456789"), 0xe3069283},
		{"nothing, nil", nil, 0},
		{"nothing, empty", []byte{}, 0},
		{"a", []byte("a"), 0xc1d04330},
		{"32 bytes 0", make([]byte, 32), 0x8a9136aa},
		{"32 bytes 255", bytes.Repeat([]byte{255}, 32), 0x62a8ab43},
		{"32 rising bytes", rising, 0x46dd794e},
		{"32 falling bytes", falling, 0x113fdb5c},
		{"four bytes 255", bytes.Repeat([]byte{255}, 4), 0xffffffff},
	} {
		if x := Sum(c.b); x != c.want {
			t.Errorf("%s: %08x, not %08x", c.name, x, c.want)
		}
	}
}

// P4.1: Sum is the rule's, and the library's, at no bytes, at each one byte, at bytes 0 and 255, and at long rows.
func TestSum(t *testing.T) {
	for _, b := range rows() {
		x := Sum(b)
		if x != ruled(1<<32-1, b) || x != library(0, b) {
			t.Errorf("%d bytes, first of them %v: %08x, not %08x", len(b), b[:min(len(b), 4)], x, library(0, b))
		}
	}
}

// P4.1: a row far longer than a page.
func TestLong(t *testing.T) {
	b := make([]byte, 1<<20)
	rand.New(rand.NewSource(1)).Read(b)
	if x := Sum(b); x != library(0, b) {
		t.Errorf("%08x, not %08x", x, library(0, b))
	}
	if x := Sum(make([]byte, 1<<20)); x != library(0, make([]byte, 1<<20)) {
		t.Errorf("bytes 0: %08x", x)
	}
}

// P4.1: More takes any number as a sum.
func TestMore(t *testing.T) {
	for _, sum := range sums() {
		for _, b := range rows() {
			x := More(sum, b)
			if x != ruled(sum^(1<<32-1), b) || x != library(sum, b) {
				t.Errorf("%08x and %d bytes: %08x, not %08x", sum, len(b), x, library(sum, b))
			}
		}
	}
}

// P4.1: More of no bytes is the sum itself, whatever it is.
func TestMoreOfNothing(t *testing.T) {
	for _, sum := range sums() {
		for _, b := range [][]byte{nil, {}} {
			if x := More(sum, b); x != sum {
				t.Errorf("%08x became %08x", sum, x)
			}
		}
	}
}

// P4.1: the sum of bytes in two parts is that of the whole, wherever they are parted.
func TestTwoParts(t *testing.T) {
	for _, b := range rows() {
		whole := Sum(b)
		step := len(b)/100 + 1
		for i := 0; i <= len(b); i += step {
			if x := More(Sum(b[:i]), b[i:]); x != whole {
				t.Errorf("%d bytes parted at %d: %08x, not %08x", len(b), i, x, whole)
			}
		}
	}
}

// P4.1: the sum of bytes that come one by one is that of the whole.
func TestByteByByte(t *testing.T) {
	for _, b := range rows() {
		x := Sum(nil)
		for i := range b {
			x = More(x, b[i:i+1])
		}
		if x != Sum(b) {
			t.Errorf("%d bytes: %08x, not %08x", len(b), x, Sum(b))
		}
	}
}

// places are where four bytes in a row (or fewer, in a shorter row) may be changed: the beginning, the middle, the end.
func places(n int) []int {
	last := max(n-4, 0)
	all := []int{0, last / 2, last}
	slices.Sort(all)
	return slices.Compact(all)
}

// changed is b with a number's four bytes made one with those at a place.
func changed(b []byte, at int, by uint32) []byte {
	other := slices.Clone(b)
	for i := range min(4, len(b)-at) {
		other[at+i] ^= byte(by >> (8 * i))
	}
	return other
}

// P4.2: one bit and two bits within four bytes, and each byte in each other's stead, change the sum.
func TestChangesAreTold(t *testing.T) {
	for _, n := range []int{1, 2, 3, 4, 5, 8, 9, 64, 4096} {
		for _, c := range []byte{0, 255, 90} {
			b := bytes.Repeat([]byte{c}, n)
			wide := 8 * min(4, n)
			for _, at := range places(n) {
				for i := range wide {
					for j := range wide {
						by := uint32(1)<<i | uint32(1)<<j
						if other := changed(b, at, by); Sum(other) == Sum(b) {
							t.Errorf("%d bytes %d, changed at %d by %08x: the same sum", n, c, at, by)
						}
					}
				}
			}
		}
	}
	for a := range 256 {
		for b := range a {
			if Sum([]byte{byte(a)}) == Sum([]byte{byte(b)}) {
				t.Errorf("the bytes %d and %d have the same sum", a, b)
			}
		}
	}
}

// P4.2: any change of four bytes: what the 32 single bits do to the sum must be 32 changes of which no
// choice, made one with each other, gives 0; what several bits do together is what each of them does.
func TestEveryChangeIsTold(t *testing.T) {
	source := rand.New(rand.NewSource(2))
	for _, n := range []int{4, 5, 8, 64, 1000, 4096} {
		b := make([]byte, n)
		source.Read(b)
		for _, at := range places(n) {
			var single [32]uint32
			for i := range single {
				single[i] = Sum(changed(b, at, 1<<i)) ^ Sum(b)
			}
			if free(single) != 32 {
				t.Errorf("%d bytes, changed at %d: some change is not told", n, at)
			}
			for range 100 {
				by := source.Uint32()
				together := uint32(0)
				for i := range single {
					together ^= single[i] * (by >> i & 1)
				}
				if Sum(changed(b, at, by))^Sum(b) != together {
					t.Errorf("%d bytes, changed at %d by %08x: not what its bits do", n, at, by)
				}
			}
		}
	}
}

// free tells how many of the numbers no choice of the others gives.
func free(all [32]uint32) int {
	var led [32]uint32
	n := 0
	for _, x := range all {
		for x != 0 {
			top := bits.Len32(x) - 1
			if led[top] == 0 {
				led[top] = x
				n++
				break
			}
			x ^= led[top]
		}
	}
	return n
}

// P4.2: chosen at random, changes of four bytes in a row at the beginning, in the middle and at the end are told.
func TestRandomChangesAreTold(t *testing.T) {
	source := rand.New(rand.NewSource(3))
	for _, n := range []int{4, 6, 100, 4096} {
		b := make([]byte, n)
		source.Read(b)
		for _, at := range places(n) {
			for range 200 {
				by := source.Uint32() | 1
				if Sum(changed(b, at, by)) == Sum(b) {
					t.Errorf("%d bytes, changed at %d by %08x: the same sum", n, at, by)
				}
			}
		}
	}
}

// R3: what is handed in stays as it was, what lies behind it in memory too.
func TestNothingIsChanged(t *testing.T) {
	for _, b := range rows() {
		room := append(slices.Clone(b), 1, 2, 3)
		was := slices.Clone(room)
		Sum(room[:len(b)])
		More(1<<32-1, room[:len(b)])
		if !bytes.Equal(room, was) {
			t.Errorf("%d bytes were changed", len(b))
		}
	}
}

// Nothing is kept from call to call: the same bytes have the same sum, whatever was asked between.
func TestNothingIsKept(t *testing.T) {
	b := []byte("123456789")
	first := Sum(b)
	for _, other := range rows() {
		More(Sum(other), other)
		if Sum(b) != first {
			t.Fatal("another sum after other bytes")
		}
	}
	b[0] = 0
	if Sum(b) == first || More(0, []byte("123456789")) != first {
		t.Error("a sum was kept")
	}
}

// P4.1: whatever the sum and the bytes, the answer is the rule's, in one part and in two.
func FuzzMore(f *testing.F) {
	f.Add(uint32(0), []byte(nil), 0)
	f.Add(uint32(0), []byte("123456789"), 4)
	f.Add(uint32(1<<32-1), []byte{0, 0, 0, 0}, 4)
	f.Add(uint32(0xe3069283), []byte{255, 255, 255, 255, 255}, 1)
	f.Fuzz(func(t *testing.T, sum uint32, b []byte, at int) {
		at = min(max(at, 0), len(b))
		want := ruled(sum^(1<<32-1), b)
		if x := More(sum, b); x != want || x != library(sum, b) {
			t.Errorf("%08x, not %08x", x, want)
		}
		if x := More(More(sum, b[:at]), b[at:]); x != want {
			t.Errorf("parted at %d: %08x, not %08x", at, x, want)
		}
	})
}

// P4.2: whatever the bytes and the change of four of them, it is told.
func FuzzChange(f *testing.F) {
	f.Add([]byte{0}, 0, uint32(1))
	f.Add([]byte("123456789"), 5, uint32(1<<31))
	f.Add([]byte{255, 255, 255, 255}, 0, uint32(1<<32-1))
	f.Fuzz(func(t *testing.T, b []byte, at int, by uint32) {
		at = min(max(at, 0), len(b))
		other := changed(b, at, by)
		if (Sum(other) == Sum(b)) != bytes.Equal(other, b) {
			t.Errorf("%v and %v", b, other)
		}
	})
}
