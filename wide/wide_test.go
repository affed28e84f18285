package wide

import (
	"bytes"
	"math/big"
	"slices"
	"testing"

	"cashbook/api"
)

const max64 = 1<<64 - 1

// edges are numbers at which carries, borrows and bytes change.
func edges() []api.U128 {
	words := []uint64{0, 1, 2, 3, 5, 127, 128, 255, 256, 258, 0x0102030405060708, 1<<32 - 1, 1 << 32, 1<<63 - 1, 1 << 63, 1<<63 + 1, max64 - 1, max64}
	var all []api.U128
	for _, hi := range words {
		for _, lo := range words {
			all = append(all, api.U128{Hi: hi, Lo: lo})
		}
	}
	return all
}

// bigOf is what a number is to the library, which the tests hold the package against.
func bigOf(a api.U128) *big.Int {
	n := new(big.Int).SetUint64(a.Hi)
	n.Lsh(n, 64)
	return n.Add(n, new(big.Int).SetUint64(a.Lo))
}

// wideOf is the number and true, or 0 and false where it is below 0 or above 2^128 - 1.
func wideOf(n *big.Int) (api.U128, bool) {
	if n.Sign() < 0 || n.BitLen() > 128 {
		return api.U128{}, false
	}
	hi := new(big.Int).Rsh(n, 64)
	lo := new(big.Int).And(n, new(big.Int).SetUint64(max64))
	return api.U128{Hi: hi.Uint64(), Lo: lo.Uint64()}, true
}

// P1.1: Of.
func TestOf(t *testing.T) {
	for _, n := range []uint64{0, 1, 7, 1 << 63, max64} {
		if got := Of(n); got != (api.U128{Lo: n}) {
			t.Errorf("Of(%d) = %v", n, got)
		}
	}
}

// P1.1: Top is 2^128 - 1, above which nothing stands.
func TestTop(t *testing.T) {
	if Top() != (api.U128{Hi: max64, Lo: max64}) {
		t.Error(Top())
	}
	for _, a := range edges() {
		if Cmp(a, Top()) > 0 {
			t.Errorf("%v is above Top", a)
		}
	}
}

// P1.1: Cmp, Add, Sub and Rest as the library's numbers say, at all edges.
func TestPairs(t *testing.T) {
	all := edges()
	for _, a := range all {
		for _, b := range all {
			x, y := bigOf(a), bigOf(b)
			if got := Cmp(a, b); got != x.Cmp(y) {
				t.Fatalf("Cmp(%v, %v) = %d", a, b, got)
			}
			sum, fits := wideOf(new(big.Int).Add(x, y))
			if got, ok := Add(a, b); got != sum || ok != fits {
				t.Fatalf("Add(%v, %v) = %v, %v", a, b, got, ok)
			}
			left, there := wideOf(new(big.Int).Sub(x, y))
			if got, ok := Sub(a, b); got != left || ok != there {
				t.Fatalf("Sub(%v, %v) = %v, %v", a, b, got, ok)
			}
			if got := Rest(a, b); got != left {
				t.Fatalf("Rest(%v, %v) = %v", a, b, got)
			}
		}
	}
}

// P1.1: Cmp says just -1, 0 or 1, and looks at the high half first.
func TestCmp(t *testing.T) {
	for _, c := range []struct {
		a, b api.U128
		want int
	}{
		{Of(1), Of(2), -1},
		{Of(2), Of(2), 0},
		{Of(9), Of(2), 1},
		{api.U128{Hi: 1}, Of(max64), 1},
		{Of(max64), api.U128{Hi: 1}, -1},
		{api.U128{Hi: 1, Lo: 9}, api.U128{Hi: 2, Lo: 3}, -1},
		{Of(0), Top(), -1},
		{Top(), Of(0), 1},
		{Top(), Top(), 0},
	} {
		if got := Cmp(c.a, c.b); got != c.want {
			t.Errorf("Cmp(%v, %v) = %d, not %d", c.a, c.b, got, c.want)
		}
	}
}

// P1.1: the chapter's examples of Add: 2^64 - 1 and 1 carry, Top and 1 are too many.
func TestAdd(t *testing.T) {
	for _, c := range []struct {
		a, b, want api.U128
		ok         bool
	}{
		{Of(2), Of(3), Of(5), true},
		{Of(max64), Of(1), api.U128{Hi: 1}, true},
		{Of(1), Of(max64), api.U128{Hi: 1}, true},
		{Top(), Of(0), Top(), true},
		{api.U128{Hi: max64}, Of(max64), Top(), true},
		{Top(), Of(1), api.U128{}, false},
		{Of(1), Top(), api.U128{}, false},
		{Top(), Top(), api.U128{}, false},
		{api.U128{Hi: 1 << 63}, api.U128{Hi: 1 << 63, Lo: 7}, api.U128{}, false},
		{api.U128{Hi: max64, Lo: max64 - 1}, Of(2), api.U128{}, false},
	} {
		if got, ok := Add(c.a, c.b); got != c.want || ok != c.ok {
			t.Errorf("Add(%v, %v) = %v, %v", c.a, c.b, got, ok)
		}
	}
}

// P1.1: Sub borrows, and is 0 and false where more is taken than there is.
func TestSub(t *testing.T) {
	for _, c := range []struct {
		a, b, want api.U128
		ok         bool
	}{
		{Of(5), Of(3), Of(2), true},
		{Of(5), Of(5), api.U128{}, true},
		{api.U128{Hi: 1}, Of(1), Of(max64), true},
		{Top(), Top(), api.U128{}, true},
		{Top(), Of(0), Top(), true},
		{Of(3), Of(5), api.U128{}, false},
		{Of(0), Of(1), api.U128{}, false},
		{Of(0), Top(), api.U128{}, false},
		{Of(max64), api.U128{Hi: 1}, api.U128{}, false},
		{api.U128{Hi: 1, Lo: 1}, api.U128{Hi: 1, Lo: 2}, api.U128{}, false},
	} {
		if got, ok := Sub(c.a, c.b); got != c.want || ok != c.ok {
			t.Errorf("Sub(%v, %v) = %v, %v", c.a, c.b, got, ok)
		}
	}
}

// P1.1: Rest is 0 where more is taken than there is.
func TestRest(t *testing.T) {
	for _, c := range []struct{ a, b, want api.U128 }{
		{Of(5), Of(3), Of(2)},
		{Of(3), Of(5), Of(0)},
		{Of(5), Of(5), Of(0)},
		{Of(0), Top(), Of(0)},
		{Top(), Of(0), Top()},
		{api.U128{Hi: 2}, Of(1), api.U128{Hi: 1, Lo: max64}},
		{api.U128{Hi: 1, Lo: 1}, api.U128{Hi: 1, Lo: 2}, Of(0)},
	} {
		if got := Rest(c.a, c.b); got != c.want {
			t.Errorf("Rest(%v, %v) = %v", c.a, c.b, got)
		}
	}
}

// P1.1: Least of none is Top; else the least, wherever it stands.
func TestLeast(t *testing.T) {
	for _, c := range []struct {
		l    []api.U128
		want api.U128
	}{
		{nil, Top()},
		{[]api.U128{}, Top()},
		{[]api.U128{Top()}, Top()},
		{[]api.U128{Of(0)}, Of(0)},
		{[]api.U128{Of(2), Of(3), Of(5)}, Of(2)},
		{[]api.U128{Of(3), Of(2), Of(5)}, Of(2)},
		{[]api.U128{Of(5), Of(3), Of(2)}, Of(2)},
		{[]api.U128{Of(2), Of(2)}, Of(2)},
		{[]api.U128{{Hi: 1}, {Lo: max64}}, Of(max64)},
		{[]api.U128{{Hi: 2, Lo: 1}, {Hi: 1, Lo: 9}, Top()}, api.U128{Hi: 1, Lo: 9}},
	} {
		if got := Least(c.l...); got != c.want {
			t.Errorf("Least(%v) = %v", c.l, got)
		}
	}
	if got := Least(); got != Top() {
		t.Error(got)
	}
}

// P1.1: Sum of none is 0; above Top it is 0 and false, wherever it goes over.
func TestSum(t *testing.T) {
	for _, c := range []struct {
		l    []api.U128
		want api.U128
		ok   bool
	}{
		{nil, api.U128{}, true},
		{[]api.U128{}, api.U128{}, true},
		{[]api.U128{Of(7)}, Of(7), true},
		{[]api.U128{Of(1), Of(2), Of(3)}, Of(6), true},
		{[]api.U128{Of(max64), Of(1), Of(1)}, api.U128{Hi: 1, Lo: 1}, true},
		{[]api.U128{Top()}, Top(), true},
		{[]api.U128{Of(0), Top(), Of(0)}, Top(), true},
		{[]api.U128{Top(), Of(1)}, api.U128{}, false},
		{[]api.U128{Of(1), Top()}, api.U128{}, false},
		{[]api.U128{Top(), Of(1), Of(7)}, api.U128{}, false},
		{[]api.U128{Top(), Top(), Of(2)}, api.U128{}, false},
	} {
		if got, ok := Sum(c.l); got != c.want || ok != c.ok {
			t.Errorf("Sum(%v) = %v, %v", c.l, got, ok)
		}
	}
}

// P1.1: sixteen bytes, the highest first, each in a place of its own.
func TestBytes(t *testing.T) {
	for _, c := range []struct {
		a    api.U128
		want string
	}{
		{Of(0), "\x00\x00\x00\x00\x00\x00\x00\x00\x00\x00\x00\x00\x00\x00\x00\x00"},
		{Of(1), "\x00\x00\x00\x00\x00\x00\x00\x00\x00\x00\x00\x00\x00\x00\x00\x01"},
		{api.U128{Hi: 1}, "\x00\x00\x00\x00\x00\x00\x00\x01\x00\x00\x00\x00\x00\x00\x00\x00"},
		{api.U128{Hi: 0x0102030405060708, Lo: 0x090a0b0c0d0e0f10}, "\x01\x02\x03\x04\x05\x06\x07\x08\x09\x0a\x0b\x0c\x0d\x0e\x0f\x10"},
		{Top(), "\xff\xff\xff\xff\xff\xff\xff\xff\xff\xff\xff\xff\xff\xff\xff\xff"},
	} {
		if got := string(Bytes(c.a)); got != c.want {
			t.Errorf("Bytes(%v) = %x", c.a, got)
		}
		if got, ok := Read([]byte(c.want)); got != c.a || !ok {
			t.Errorf("Read(%x) = %v, %v", c.want, got, ok)
		}
	}
	for _, a := range edges() {
		if got, ok := Read(Bytes(a)); got != a || !ok {
			t.Errorf("Read(Bytes(%v)) = %v, %v", a, got, ok)
		}
	}
}

// P1.1: of more bytes than sixteen, or fewer, Read makes nothing.
func TestReadWrongLength(t *testing.T) {
	for n := range 40 {
		if n == 16 {
			continue
		}
		b := bytes.Repeat([]byte{0xff}, n)
		if got, ok := Read(b); got != (api.U128{}) || ok {
			t.Errorf("%d bytes: %v, %v", n, got, ok)
		}
	}
	if got, ok := Read(nil); got != (api.U128{}) || ok {
		t.Error(got, ok)
	}
}

// P1.1: bytes that stand within more of them are read by themselves.
func TestReadPiece(t *testing.T) {
	b := bytes.Repeat([]byte{0xff}, 48)
	copy(b[16:], Bytes(api.U128{Hi: 3, Lo: 4}))
	if got, ok := Read(b[16:32]); got != (api.U128{Hi: 3, Lo: 4}) || !ok {
		t.Error(got, ok)
	}
}

// R3: what is handed in isn't changed, and what is answered is new memory.
func TestNothingShared(t *testing.T) {
	l := []api.U128{Of(3), Of(2), Top()}
	kept := slices.Clone(l)
	Least(l...)
	Sum(l)
	if !slices.Equal(l, kept) {
		t.Error("changed:", l)
	}
	b := Bytes(Of(258))
	Read(b)
	if !bytes.Equal(b, Bytes(Of(258))) {
		t.Errorf("changed: %x", b)
	}
	b[0] = 9
	if Bytes(Of(258))[0] != 0 {
		t.Error("two answers share memory")
	}
}

// P1.2: bytes stand to one another as the numbers do.
func TestOrder(t *testing.T) {
	all := edges()
	for _, a := range all {
		for _, b := range all {
			want := bigOf(a).Cmp(bigOf(b))
			if got := bytes.Compare(Bytes(a), Bytes(b)); got != want {
				t.Fatalf("bytes of %v and %v: %d, not %d", a, b, got, want)
			}
		}
	}
}

// P1.2: each bit stands above all those below it.
func TestOrderOfBits(t *testing.T) {
	below, bit := Of(0), Of(1)
	for i := range 128 {
		if bytes.Compare(Bytes(below), Bytes(bit)) >= 0 || Cmp(below, bit) >= 0 {
			t.Fatalf("bit %d: %v isn't below %v", i, below, bit)
		}
		below = api.U128{Hi: below.Hi | bit.Hi, Lo: below.Lo | bit.Lo}
		bit = api.U128{Hi: bit.Hi<<1 | bit.Lo>>63, Lo: bit.Lo << 1}
	}
	if below != Top() {
		t.Error(below)
	}
}

// P1.2: two numbers are the same just if their bytes are.
func FuzzOrder(f *testing.F) {
	f.Add(uint64(0), uint64(0), uint64(0), uint64(1))
	f.Add(uint64(1), uint64(0), uint64(0), uint64(max64))
	f.Fuzz(func(t *testing.T, ahi, alo, bhi, blo uint64) {
		a, b := api.U128{Hi: ahi, Lo: alo}, api.U128{Hi: bhi, Lo: blo}
		if got := bytes.Compare(Bytes(a), Bytes(b)); got != Cmp(a, b) || got != bigOf(a).Cmp(bigOf(b)) {
			t.Errorf("%v and %v: %d", a, b, got)
		}
	})
}
