package key

import (
	"bytes"
	"encoding/binary"
	"math"
	"math/big"
	"slices"
	"testing"

	"cashbook/api"
)

const max64 = math.MaxUint64

// words are numbers of 64 bits at which bytes and bits change.
func words() []uint64 {
	all := []uint64{0, 7, 0x0102030405060708, 0xfffefdfcfbfaf9f8, max64 - 1, max64}
	for i := range 8 {
		all = append(all, 1<<(8*i), 255<<(8*i), 1<<(8*i)-1, 1<<(8*i+7))
	}
	return all
}

// numbers are wide numbers at which halves, bytes and bits change.
func numbers() []api.U128 {
	var all []api.U128
	for _, hi := range words() {
		for _, lo := range words() {
			all = append(all, api.U128{Hi: hi, Lo: lo})
		}
	}
	return all
}

// rows are all rows of at most three bytes that stand at an edge, and some longer ones.
func rows() [][]byte {
	all := [][]byte{nil}
	for i := 0; i < len(all); i++ {
		if len(all[i]) == 3 {
			continue
		}
		for _, c := range []byte{0, 1, 127, 128, 254, 255} {
			all = append(all, append(slices.Clone(all[i]), c))
		}
	}
	for _, n := range []int{7, 8, 9, 15, 16, 17, 23, 24, 25, 100, 1000} {
		for _, c := range []byte{0, 1, 128, 255} {
			all = append(all, bytes.Repeat([]byte{c}, n), append(bytes.Repeat([]byte{c}, n-1), 254))
		}
	}
	return all
}

// ahead tells by the chapter's own words whether a stands ahead of b.
func ahead(a, b []byte) bool {
	for i := range a {
		if i == len(b) {
			return false
		}
		if a[i] != b[i] {
			return a[i] < b[i]
		}
	}
	return len(b) > len(a)
}

// stand is what Cmp must answer.
func stand(a, b []byte) int {
	switch {
	case ahead(a, b):
		return -1
	case ahead(b, a):
		return 1
	}
	return 0
}

// wideBytes are a number's bytes, laid by the library.
func wideBytes(a api.U128) []byte {
	return stampBytes(stampBytes(nil, a.Hi), a.Lo)
}

// stampBytes are bytes and a stamp's behind, laid by the library.
func stampBytes(b []byte, n uint64) []byte { return binary.BigEndian.AppendUint64(b, n) }

// P3.1: how rows stand to one another.
func TestCmp(t *testing.T) {
	for _, c := range []struct {
		a, b []byte
		want int
	}{
		{nil, nil, 0},
		{nil, []byte{}, 0},
		{[]byte{}, nil, 0},
		{nil, []byte{0}, -1},
		{[]byte{0}, nil, 1},
		{[]byte{}, []byte{255}, -1},
		{[]byte{0}, []byte{0}, 0},
		{[]byte{255}, []byte{255}, 0},
		{[]byte{0}, []byte{255}, -1},
		{[]byte{255}, []byte{0}, 1},
		{[]byte{127}, []byte{128}, -1},
		{[]byte{254}, []byte{255}, -1},
		{[]byte{1}, []byte{1, 0}, -1},
		{[]byte{1, 0}, []byte{1}, 1},
		{[]byte{1, 255, 255}, []byte{2}, -1},
		{[]byte{2}, []byte{1, 255, 255}, 1},
		{[]byte{1, 2, 3}, []byte{1, 2, 3}, 0},
		{[]byte{1, 2, 3}, []byte{1, 3, 2}, -1},
		{[]byte{0, 1}, []byte{1, 0}, -1},
		{[]byte("ab"), []byte("abc"), -1},
		{[]byte("abd"), []byte("abc"), 1},
		{bytes.Repeat([]byte{9}, 100000), append(bytes.Repeat([]byte{9}, 100000), 0), -1},
	} {
		if got := Cmp(c.a, c.b); got != c.want {
			t.Errorf("Cmp(%.30v, %.30v) = %d", c.a, c.b, got)
		}
	}
}

// P3.1: Cmp as the chapter's words say, of any two rows.
func TestCmpOfAllRows(t *testing.T) {
	all := rows()
	for _, a := range all {
		for _, b := range all {
			if got, want := Cmp(a, b), stand(a, b); got != want {
				t.Errorf("Cmp(%.30v, %.30v) = %d, not %d", a, b, got, want)
			}
		}
	}
}

// P3.1: the bytes of numbers, stamps and what is put together of them.
func TestBytes(t *testing.T) {
	for _, c := range []struct {
		got, want []byte
	}{
		{ID(api.U128{}), make([]byte, 16)},
		{ID(api.U128{Lo: 1}), []byte{15: 1}},
		{ID(api.U128{Hi: 1}), []byte{7: 1, 15: 0}},
		{ID(api.U128{Hi: 0x0102030405060708, Lo: 0x090a0b0c0d0e0f10}), []byte{1, 2, 3, 4, 5, 6, 7, 8, 9, 10, 11, 12, 13, 14, 15, 16}},
		{ID(api.U128{Hi: max64, Lo: max64}), bytes.Repeat([]byte{255}, 16)},
		{Stamp(0), make([]byte, 8)},
		{Stamp(1), []byte{7: 1}},
		{Stamp(258), []byte{6: 1, 7: 2}},
		{Stamp(0x0102030405060708), []byte{1, 2, 3, 4, 5, 6, 7, 8}},
		{Stamp(api.MaxStamp), []byte{255, 255, 255, 255, 255, 255, 255, 254}},
		{Stamp(max64), bytes.Repeat([]byte{255}, 8)},
		{Pair(api.U128{}, 0), make([]byte, 24)},
		{Pair(api.U128{Hi: 1, Lo: 2}, 258), []byte{7: 1, 15: 2, 22: 1, 23: 2}},
		{Pair(api.U128{Hi: max64, Lo: max64}, 0), append(bytes.Repeat([]byte{255}, 16), make([]byte, 8)...)},
		{Pair(api.U128{}, max64), append(make([]byte, 16), bytes.Repeat([]byte{255}, 8)...)},
		{Pair(api.U128{Hi: max64, Lo: max64}, max64), bytes.Repeat([]byte{255}, 24)},
		{Two(0, 0), make([]byte, 16)},
		{Two(3, 4), []byte{7: 3, 15: 4}},
		{Two(4, 3), []byte{7: 4, 15: 3}},
		{Two(max64, 0), append(bytes.Repeat([]byte{255}, 8), make([]byte, 8)...)},
		{Two(0, max64), append(make([]byte, 8), bytes.Repeat([]byte{255}, 8)...)},
		{Two(max64, max64), bytes.Repeat([]byte{255}, 16)},
	} {
		if !bytes.Equal(c.got, c.want) {
			t.Errorf("%v, not %v", c.got, c.want)
		}
	}
}

// P3.1: the bytes as the library lays them, and back, at all edges.
func TestThereAndBack(t *testing.T) {
	for _, a := range numbers() {
		if got := ID(a); !bytes.Equal(got, wideBytes(a)) {
			t.Errorf("ID(%v) = %v", a, got)
		}
		if got := Two(a.Hi, a.Lo); !bytes.Equal(got, wideBytes(a)) {
			t.Errorf("Two(%d, %d) = %v", a.Hi, a.Lo, got)
		}
		if n, m, ok := Halves(Two(a.Hi, a.Lo)); n != a.Hi || m != a.Lo || !ok {
			t.Errorf("Halves of Two(%d, %d) = %d, %d, %t", a.Hi, a.Lo, n, m, ok)
		}
		for _, n := range words() {
			if got := Pair(a, n); !bytes.Equal(got, stampBytes(wideBytes(a), n)) {
				t.Errorf("Pair(%v, %d) = %v", a, n, got)
			}
			if b, m, ok := Parts(Pair(a, n)); b != a || m != n || !ok {
				t.Errorf("Parts of Pair(%v, %d) = %v, %d, %t", a, n, b, m, ok)
			}
		}
	}
	for _, n := range words() {
		if got := Stamp(n); !bytes.Equal(got, stampBytes(nil, n)) {
			t.Errorf("Stamp(%d) = %v", n, got)
		}
	}
}

// P3.1: Parts of 24 bytes alone, Halves of 16 alone; 0, 0, false of any other number of them.
func TestLengths(t *testing.T) {
	for n := range 100 {
		for _, c := range []byte{0, 1, 255} {
			b := bytes.Repeat([]byte{c}, n)
			word := uint64(c) * 0x0101010101010101
			var a api.U128
			var stamp, first, second uint64
			if n == 24 {
				a, stamp = api.U128{Hi: word, Lo: word}, word
			}
			if n == 16 {
				first, second = word, word
			}
			if gotA, gotN, ok := Parts(b); gotA != a || gotN != stamp || ok != (n == 24) {
				t.Errorf("Parts of %d bytes %d: %v, %d, %t", n, c, gotA, gotN, ok)
			}
			if gotN, gotM, ok := Halves(b); gotN != first || gotM != second || ok != (n == 16) {
				t.Errorf("Halves of %d bytes %d: %d, %d, %t", n, c, gotN, gotM, ok)
			}
		}
	}
	if a, n, ok := Parts(nil); a != (api.U128{}) || n != 0 || ok {
		t.Error(a, n, ok)
	}
	if n, m, ok := Halves(nil); n != 0 || m != 0 || ok {
		t.Error(n, m, ok)
	}
}

// P3.1: what Parts and Halves read is laid as it stood.
func TestReadAndLaid(t *testing.T) {
	for i := range 24 {
		for c := range 256 {
			b := []byte{1, 2, 3, 4, 5, 6, 7, 8, 9, 10, 11, 12, 13, 14, 15, 16, 17, 18, 19, 20, 21, 22, 23, 24}
			b[i] = byte(c)
			if a, n, ok := Parts(b); !ok || !bytes.Equal(Pair(a, n), b) {
				t.Errorf("Parts(%v) = %v, %d, %t", b, a, n, ok)
			}
			if n, m, ok := Halves(b[:16]); !ok || !bytes.Equal(Two(n, m), b[:16]) {
				t.Errorf("Halves(%v) = %d, %d, %t", b[:16], n, m, ok)
			}
		}
	}
}

// P3.1: the first row of as many bytes behind.
func TestNext(t *testing.T) {
	for _, c := range []struct {
		b, want []byte
		ok      bool
	}{
		{nil, nil, false},
		{[]byte{}, nil, false},
		{[]byte{0}, []byte{1}, true},
		{[]byte{127}, []byte{128}, true},
		{[]byte{254}, []byte{255}, true},
		{[]byte{255}, nil, false},
		{[]byte{0, 0}, []byte{0, 1}, true},
		{[]byte{1, 255}, []byte{2, 0}, true},
		{[]byte{254, 255}, []byte{255, 0}, true},
		{[]byte{255, 0}, []byte{255, 1}, true},
		{[]byte{255, 254}, []byte{255, 255}, true},
		{[]byte{255, 255}, nil, false},
		{[]byte{0, 255, 255}, []byte{1, 0, 0}, true},
		{[]byte{255, 0, 255}, []byte{255, 1, 0}, true},
		{[]byte{7, 255, 3, 255, 255, 255}, []byte{7, 255, 4, 0, 0, 0}, true},
		{bytes.Repeat([]byte{255}, 24), nil, false},
		{bytes.Repeat([]byte{255}, 5000), nil, false},
		{append([]byte{0}, bytes.Repeat([]byte{255}, 5000)...), append([]byte{1}, make([]byte, 5000)...), true},
	} {
		got, ok := Next(c.b)
		if !bytes.Equal(got, c.want) || ok != c.ok {
			t.Errorf("Next(%.30v) = %.30v, %t", c.b, got, ok)
		}
	}
}

// checkNext holds Next against the number that the bytes are, and one more.
func checkNext(t *testing.T, b []byte) {
	t.Helper()
	n := new(big.Int).SetBytes(b)
	n.Add(n, big.NewInt(1))
	got, ok := Next(b)
	if n.BitLen() > 8*len(b) {
		if ok || len(got) != 0 {
			t.Errorf("Next(%.30v) = %.30v, %t, though there is none", b, got, ok)
		}
		return
	}
	if want := n.FillBytes(make([]byte, len(b))); !ok || !bytes.Equal(got, want) {
		t.Errorf("Next(%.30v) = %.30v, %t, not %.30v", b, got, ok, want)
	}
}

// P3.1: Next of all rows of one and of two bytes, and of those at an edge.
func TestNextOfAllRows(t *testing.T) {
	for n := range 1 << 8 {
		checkNext(t, []byte{byte(n)})
	}
	for n := range 1 << 16 {
		checkNext(t, []byte{byte(n >> 8), byte(n)})
	}
	for _, b := range rows() {
		checkNext(t, b)
	}
}

// P3.1: the first and the last row of some bytes that begin so.
func TestLowHigh(t *testing.T) {
	for _, c := range []struct {
		b         []byte
		n         int
		low, high []byte
	}{
		{nil, math.MinInt, nil, nil},
		{nil, -1, nil, nil},
		{nil, 0, nil, nil},
		{[]byte{}, 0, nil, nil},
		{[]byte{1, 2}, math.MinInt, nil, nil},
		{[]byte{1, 2}, -1, nil, nil},
		{[]byte{1, 2}, 0, nil, nil},
		{[]byte{1, 2}, 1, []byte{1}, []byte{1}},
		{[]byte{1, 2}, 2, []byte{1, 2}, []byte{1, 2}},
		{[]byte{1, 2}, 3, []byte{1, 2, 0}, []byte{1, 2, 255}},
		{[]byte{1, 2, 3}, 2, []byte{1, 2}, []byte{1, 2}},
		{[]byte{7}, 3, []byte{7, 0, 0}, []byte{7, 255, 255}},
		{[]byte{0}, 2, []byte{0, 0}, []byte{0, 255}},
		{[]byte{255}, 2, []byte{255, 0}, []byte{255, 255}},
		{nil, 2, []byte{0, 0}, []byte{255, 255}},
		{nil, 24, make([]byte, 24), bytes.Repeat([]byte{255}, 24)},
		{nil, 25, make([]byte, 24), bytes.Repeat([]byte{255}, 24)},
		{nil, math.MaxInt, make([]byte, 24), bytes.Repeat([]byte{255}, 24)},
		{[]byte{7}, 23, []byte{0: 7, 22: 0}, append([]byte{7}, bytes.Repeat([]byte{255}, 22)...)},
		{[]byte{7}, 24, []byte{0: 7, 23: 0}, append([]byte{7}, bytes.Repeat([]byte{255}, 23)...)},
		{[]byte{7}, 25, []byte{0: 7, 23: 0}, append([]byte{7}, bytes.Repeat([]byte{255}, 23)...)},
		{[]byte{7}, math.MaxInt, []byte{0: 7, 23: 0}, append([]byte{7}, bytes.Repeat([]byte{255}, 23)...)},
		{bytes.Repeat([]byte{9}, 23), 24, append(bytes.Repeat([]byte{9}, 23), 0), append(bytes.Repeat([]byte{9}, 23), 255)},
		{bytes.Repeat([]byte{9}, 24), 24, bytes.Repeat([]byte{9}, 24), bytes.Repeat([]byte{9}, 24)},
		{bytes.Repeat([]byte{9}, 25), 24, bytes.Repeat([]byte{9}, 24), bytes.Repeat([]byte{9}, 24)},
		{bytes.Repeat([]byte{9}, 25), 25, bytes.Repeat([]byte{9}, 24), bytes.Repeat([]byte{9}, 24)},
		{bytes.Repeat([]byte{9}, 1000), 1000, bytes.Repeat([]byte{9}, 24), bytes.Repeat([]byte{9}, 24)},
	} {
		if got := Low(c.b, c.n); !bytes.Equal(got, c.low) {
			t.Errorf("Low(%.30v, %d) = %v", c.b, c.n, got)
		}
		if got := High(c.b, c.n); !bytes.Equal(got, c.high) {
			t.Errorf("High(%.30v, %d) = %v", c.b, c.n, got)
		}
	}
}

// checkLowHigh holds Low and High against the chapter's words: n bytes, b's as far as they go, and 0 or 255 behind.
func checkLowHigh(t *testing.T, b []byte, n int) {
	t.Helper()
	low, high := Low(b, n), High(b, n)
	count := max(0, min(n, 24))
	if len(low) != count || len(high) != count {
		t.Fatalf("Low and High of %.30v and %d have %d and %d bytes", b, n, len(low), len(high))
	}
	for i := range count {
		wantLow, wantHigh := byte(0), byte(255)
		if i < len(b) {
			wantLow, wantHigh = b[i], b[i]
		}
		if low[i] != wantLow || high[i] != wantHigh {
			t.Errorf("Low(%.30v, %d) = %v, High %v", b, n, low, high)
		}
	}
}

// P3.1: Low and High of any row and any n.
func TestLowHighOfAllRows(t *testing.T) {
	for _, b := range rows() {
		for n := -3; n < 40; n++ {
			checkLowHigh(t, b, n)
		}
		for _, n := range []int{math.MinInt, math.MinInt + 1, -1 << 32, 1 << 31, 1 << 32, math.MaxInt - 1, math.MaxInt} {
			checkLowHigh(t, b, n)
		}
	}
}

// P3.1: no row of two bytes that begins so stands outside Low and High, and both begin so.
func TestLowHighAreFirstAndLast(t *testing.T) {
	for c := range 256 {
		b := []byte{byte(c)}
		low, high := Low(b, 2), High(b, 2)
		var begin [][]byte
		for n := range 1 << 16 {
			row := []byte{byte(n >> 8), byte(n)}
			if bytes.HasPrefix(row, b) {
				begin = append(begin, row)
			}
		}
		if !bytes.Equal(begin[0], low) || !bytes.Equal(begin[len(begin)-1], high) {
			t.Errorf("of %d: %v, %v", c, low, high)
		}
	}
}

// checkOrder holds two pairs' order against that of their numbers, and then of their stamps.
func checkOrder(t *testing.T, a api.U128, n uint64, b api.U128, m uint64) {
	t.Helper()
	want := 0
	one := []uint64{a.Hi, a.Lo, n}
	other := []uint64{b.Hi, b.Lo, m}
	for i := 2; i >= 0; i-- {
		if one[i] < other[i] {
			want = -1
		}
		if one[i] > other[i] {
			want = 1
		}
	}
	if got := Cmp(Pair(a, n), Pair(b, m)); got != want {
		t.Errorf("Pair(%v, %d) stands %d to Pair(%v, %d), not %d", a, n, got, b, m, want)
	}
}

// P3.2: pairs stand as their numbers do, and then their stamps.
func TestOrder(t *testing.T) {
	few := []uint64{0, 1, 255, 256, 1<<32 - 1, 1 << 32, 1<<63 - 1, 1 << 63, api.MaxStamp, max64}
	for _, hi := range few {
		for _, lo := range few {
			for _, otherHi := range few {
				for _, otherLo := range few {
					a, b := api.U128{Hi: hi, Lo: lo}, api.U128{Hi: otherHi, Lo: otherLo}
					checkOrder(t, a, 0, b, 0)
					checkOrder(t, a, 0, b, max64)
					checkOrder(t, a, max64, b, 0)
					checkOrder(t, a, lo, b, otherLo)
				}
			}
		}
	}
	for _, a := range numbers() {
		for _, n := range few {
			for _, m := range few {
				checkOrder(t, a, n, a, m)
			}
		}
	}
}

// P3.2: pairs that are made in order stand in order, each ahead of all behind it.
func TestOrderOfARow(t *testing.T) {
	numbers := []api.U128{{}, {Lo: 1}, {Lo: 255}, {Lo: 256}, {Lo: max64}, {Hi: 1}, {Hi: 1, Lo: 1}, {Hi: 255, Lo: max64}, {Hi: 256}, {Hi: max64}, {Hi: max64, Lo: max64}}
	stamps := []uint64{0, 1, 2, 255, 256, 65535, 65536, 1 << 63, api.MaxStamp, max64}
	var row [][]byte
	for _, a := range numbers {
		for _, n := range stamps {
			row = append(row, Pair(a, n))
		}
	}
	for i := range row {
		for j := range row {
			want := 0
			if i < j {
				want = -1
			}
			if i > j {
				want = 1
			}
			if got := Cmp(row[i], row[j]); got != want {
				t.Errorf("%v stands %d to %v, not %d", row[i], got, row[j], want)
			}
		}
	}
}

// P3.1 and P3.2: IDs and stamps stand as their numbers do, twos as their first ones and then their second ones, and a number's pairs from Low to High of its bytes.
func TestOrderOfTheOthers(t *testing.T) {
	few := []uint64{0, 1, 255, 256, 1 << 63, api.MaxStamp, max64}
	for i, n := range few {
		for j, m := range few {
			want := 0
			if i < j {
				want = -1
			}
			if i > j {
				want = 1
			}
			if Cmp(Stamp(n), Stamp(m)) != want || Cmp(Two(n, 5), Two(m, 5)) != want || Cmp(Two(5, n), Two(5, m)) != want || Cmp(ID(api.U128{Hi: n}), ID(api.U128{Hi: m})) != want {
				t.Errorf("%d and %d", n, m)
			}
			if want != 0 && Cmp(Two(n, max64), Two(m, 0)) != want {
				t.Errorf("%d and %d, ahead of others", n, m)
			}
			a := api.U128{Hi: n, Lo: m}
			if !bytes.Equal(Low(ID(a), 24), Pair(a, 0)) || !bytes.Equal(High(ID(a), 24), Pair(a, max64)) {
				t.Errorf("%v: from %v to %v", a, Low(ID(a), 24), High(ID(a), 24))
			}
		}
	}
}

// R3: what is handed in stays as it was, with the bytes behind it.
func TestHandedInStays(t *testing.T) {
	for _, n := range []int{0, 1, 2, 15, 16, 17, 23, 24, 25, 30} {
		for _, c := range []byte{0, 7, 254, 255} {
			whole := bytes.Repeat([]byte{c}, 40)
			if n > 1 {
				whole[0] = 1
			}
			was := slices.Clone(whole)
			b := whole[:n]
			Cmp(b, b)
			Parts(b)
			Halves(b)
			Next(b)
			for _, m := range []int{-1, 0, 1, 15, 24, 99} {
				Low(b, m)
				High(b, m)
			}
			if !bytes.Equal(whole, was) {
				t.Errorf("%d bytes %d were changed: %v", n, c, whole)
			}
		}
	}
}

// R3: what is answered is new memory: whoever writes into it, or behind it, changes nothing.
func TestAnswersAreNew(t *testing.T) {
	whole := bytes.Repeat([]byte{3}, 40)
	spoil := func(b []byte) {
		b = b[:cap(b)]
		for i := range b {
			b[i] = 99
		}
	}
	for _, n := range []int{0, 1, 16, 24, 30} {
		b := whole[:n]
		row, _ := Next(b)
		spoil(row)
		for _, m := range []int{0, n - 1, n, n + 1, 24} {
			low, high := Low(b, m), High(b, m)
			was := slices.Clone(high)
			spoil(low)
			if !bytes.Equal(high, was) {
				t.Errorf("Low and High of %d bytes share", n)
			}
			spoil(high)
		}
		if !bytes.Equal(whole, bytes.Repeat([]byte{3}, 40)) {
			t.Errorf("an answer of %d bytes shares what was handed in: %v", n, whole)
		}
	}
	for range 2 {
		a := api.U128{Hi: 1, Lo: 2}
		id, stamp, pair, two := ID(a), Stamp(3), Pair(a, 3), Two(3, 4)
		if id[7] != 1 || stamp[7] != 3 || pair[23] != 3 || two[7] != 3 {
			t.Error(id, stamp, pair, two)
		}
		spoil(id)
		if stamp[7] != 3 || pair[7] != 1 || two[15] != 4 {
			t.Error("the bytes of unlike calls share")
		}
		spoil(stamp)
		spoil(pair)
		spoil(two)
	}
}

// R3: what is handed in isn't kept: whoever writes into it later changes nothing.
func TestHandedInIsNotKept(t *testing.T) {
	b := []byte{1, 2, 3}
	next, _ := Next(b)
	low, high := Low(b, 4), High(b, 4)
	b[0], b[1], b[2] = 9, 9, 9
	if !bytes.Equal(next, []byte{1, 2, 4}) || !bytes.Equal(low, []byte{1, 2, 3, 0}) || !bytes.Equal(high, []byte{1, 2, 3, 255}) {
		t.Error(next, low, high)
	}
}

// P3.1, of any two rows and any n.
func FuzzRows(f *testing.F) {
	f.Add([]byte{}, []byte{0}, 0)
	f.Add([]byte{1, 255}, []byte{1}, 3)
	f.Add(bytes.Repeat([]byte{255}, 24), bytes.Repeat([]byte{7}, 16), 25)
	f.Fuzz(func(t *testing.T, a, b []byte, n int) {
		if got := Cmp(a, b); got != stand(a, b) {
			t.Errorf("Cmp(%v, %v) = %d", a, b, got)
		}
		checkNext(t, a)
		checkLowHigh(t, a, n)
		number, stamp, ok := Parts(a)
		if ok != (len(a) == 24) || ok && !bytes.Equal(Pair(number, stamp), a) || !ok && (number != api.U128{} || stamp != 0) {
			t.Errorf("Parts(%v) = %v, %d, %t", a, number, stamp, ok)
		}
		first, second, ok := Halves(a)
		if ok != (len(a) == 16) || ok && !bytes.Equal(Two(first, second), a) || !ok && (first != 0 || second != 0) {
			t.Errorf("Halves(%v) = %d, %d, %t", a, first, second, ok)
		}
	})
}

// P3.2, of any two pairs.
func FuzzOrder(f *testing.F) {
	f.Add(uint64(0), uint64(0), uint64(0), uint64(0), uint64(0), uint64(1))
	f.Add(uint64(1), uint64(0), uint64(0), uint64(0), uint64(max64), uint64(max64))
	f.Fuzz(func(t *testing.T, hi, lo, n, otherHi, otherLo, m uint64) {
		a, b := api.U128{Hi: hi, Lo: lo}, api.U128{Hi: otherHi, Lo: otherLo}
		checkOrder(t, a, n, b, m)
		checkOrder(t, a, n, a, m)
	})
}
