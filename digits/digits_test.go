package digits

import (
	"math/big"
	"strings"
	"testing"

	"cashbook/api"
)

const (
	max64  = 1<<64 - 1
	text64 = "18446744073709551615"
	over64 = "18446744073709551616"
	top    = "340282366920938463463374607431768211455"
	over   = "340282366920938463463374607431768211456"
)

// bigOf is what a number is to the library, which the tests hold the package against.
func bigOf(a api.U128) *big.Int {
	n := new(big.Int).SetUint64(a.Hi)
	n.Lsh(n, 64)
	return n.Add(n, new(big.Int).SetUint64(a.Lo))
}

// wideOf is the number; only of one from 0 to 2^128 - 1.
func wideOf(n *big.Int) api.U128 {
	hi := new(big.Int).Rsh(n, 64)
	lo := new(big.Int).And(n, new(big.Int).SetUint64(max64))
	return api.U128{Hi: hi.Uint64(), Lo: lo.Uint64()}
}

// edges are numbers at which digits, halves and bits change: around each power of ten and of two, and pairs of words.
func edges() []api.U128 {
	var all []api.U128
	limit := new(big.Int).Lsh(big.NewInt(1), 128)
	around := func(n *big.Int) {
		for d := int64(-2); d <= 2; d++ {
			m := new(big.Int).Add(n, big.NewInt(d))
			if m.Sign() >= 0 && m.Cmp(limit) < 0 {
				all = append(all, wideOf(m))
			}
		}
	}
	for p := big.NewInt(1); p.Cmp(limit) < 0; p = new(big.Int).Mul(p, big.NewInt(10)) {
		for k := int64(1); k < 10; k++ {
			around(new(big.Int).Mul(p, big.NewInt(k)))
		}
	}
	for i := uint(0); i <= 128; i++ {
		around(new(big.Int).Lsh(big.NewInt(1), i))
	}
	words := []uint64{0, 1, 7, 9, 10, 0x0102030405060708, 1<<63 - 1, 1 << 63, max64/10 - 1, max64 / 10, max64/10 + 1, max64 - 1, max64}
	for _, hi := range words {
		for _, lo := range words {
			all = append(all, api.U128{Hi: hi, Lo: lo})
		}
	}
	return all
}

// wantOf is what Read and Number must answer to a text, worked out by the library's numbers.
func wantOf(s string) (a api.U128, wide api.Errno, n uint64, short api.Errno) {
	if s == "" || strings.Trim(s, "0123456789") != "" || s != "0" && s[0] == '0' {
		return api.U128{}, api.ErrForm, 0, api.ErrForm
	}
	b, _ := new(big.Int).SetString(s, 10)
	wide, short = api.ErrOver, api.ErrOver
	if b.BitLen() <= 128 {
		a, wide = wideOf(b), api.OK
	}
	if b.BitLen() <= 64 {
		n, short = b.Uint64(), api.OK
	}
	return a, wide, n, short
}

// check holds Read and Number against what they must answer.
func check(t *testing.T, s string) {
	t.Helper()
	a, wide, n, short := wantOf(s)
	if got, e := Read(s); got != a || e != wide {
		t.Errorf("Read(%.60q) = %v, %d, not %v, %d", s, got, e, a, wide)
	}
	if got, e := Number(s); got != n || e != short {
		t.Errorf("Number(%.60q) = %d, %d, not %d, %d", s, got, e, n, short)
	}
}

// P2.1: numbers' texts, and the numbers of texts.
func TestNumbersAndTexts(t *testing.T) {
	for _, c := range []struct {
		a api.U128
		s string
	}{
		{api.U128{}, "0"},
		{api.U128{Lo: 1}, "1"},
		{api.U128{Lo: 7}, "7"},
		{api.U128{Lo: 9}, "9"},
		{api.U128{Lo: 10}, "10"},
		{api.U128{Lo: 1005}, "1005"},
		{api.U128{Lo: 1234567890}, "1234567890"},
		{api.U128{Lo: max64}, text64},
		{api.U128{Hi: 1}, over64},
		{api.U128{Hi: 1, Lo: 1}, "18446744073709551617"},
		{api.U128{Hi: 5, Lo: 7766279631452241920}, "100000000000000000000"},
		{api.U128{Hi: max64, Lo: max64 - 1}, "340282366920938463463374607431768211454"},
		{api.U128{Hi: max64, Lo: max64}, top},
	} {
		if got := Text(c.a); got != c.s {
			t.Errorf("Text(%v) = %q, not %q", c.a, got, c.s)
		}
		if got, e := Read(c.s); got != c.a || e != api.OK {
			t.Errorf("Read(%q) = %v, %d", c.s, got, e)
		}
	}
}

// P2.1: texts of numbers of 64 bits, and their numbers.
func TestShortNumbers(t *testing.T) {
	for _, c := range []struct {
		n uint64
		s string
	}{
		{0, "0"},
		{7, "7"},
		{10, "10"},
		{1<<32 - 1, "4294967295"},
		{1 << 63, "9223372036854775808"},
		{max64 - 1, "18446744073709551614"},
		{max64, text64},
	} {
		if got := Short(c.n); got != c.s {
			t.Errorf("Short(%d) = %q", c.n, got)
		}
		if got, e := Number(c.s); got != c.n || e != api.OK {
			t.Errorf("Number(%q) = %d, %d", c.s, got, e)
		}
	}
}

// P2.1: Text and Short as the library's numbers say, at all edges.
func TestTextAtEdges(t *testing.T) {
	for _, a := range edges() {
		if got, want := Text(a), bigOf(a).String(); got != want {
			t.Errorf("Text(%v) = %q, not %q", a, got, want)
		}
		if got, want := Short(a.Lo), new(big.Int).SetUint64(a.Lo).String(); got != want {
			t.Errorf("Short(%d) = %q, not %q", a.Lo, got, want)
		}
	}
}

// P2.1: above its limit a number is ErrOver, and no number is told.
func TestOver(t *testing.T) {
	for _, c := range []struct {
		s           string
		wide, short api.Errno
	}{
		{text64, api.OK, api.OK},
		{over64, api.OK, api.ErrOver},
		{"18446744073709551620", api.OK, api.ErrOver},
		{"99999999999999999999", api.OK, api.ErrOver},
		{"184467440737095516150", api.OK, api.ErrOver},
		{top, api.OK, api.ErrOver},
		{over, api.ErrOver, api.ErrOver},
		{"340282366920938463463374607431768211459", api.ErrOver, api.ErrOver},
		{"340282366920938463463374607431768211460", api.ErrOver, api.ErrOver},
		{"340282366920938463481821351505477763072", api.ErrOver, api.ErrOver},
		{"999999999999999999999999999999999999999", api.ErrOver, api.ErrOver},
		{"1000000000000000000000000000000000000000", api.ErrOver, api.ErrOver},
		{top + "0", api.ErrOver, api.ErrOver},
		{"1" + strings.Repeat("0", 100000), api.ErrOver, api.ErrOver},
		{strings.Repeat("9", 100000), api.ErrOver, api.ErrOver},
	} {
		a, e := Read(c.s)
		if e != c.wide || e != api.OK && a != (api.U128{}) {
			t.Errorf("Read(%.60q) = %v, %d", c.s, a, e)
		}
		n, e := Number(c.s)
		if e != c.short || e != api.OK && n != 0 {
			t.Errorf("Number(%.60q) = %d, %d", c.s, n, e)
		}
	}
}

// P2.1: above 2^128 - 1 nothing goes round, however far above.
func TestOverAtMultiples(t *testing.T) {
	step := new(big.Int).Lsh(big.NewInt(1), 128)
	for k := int64(1); k <= 200; k++ {
		for d := int64(-1); d <= 1; d++ {
			n := new(big.Int).Mul(step, big.NewInt(k))
			check(t, n.Add(n, big.NewInt(d)).String())
		}
	}
	for i := uint(60); i < 200; i++ {
		for d := int64(-1); d <= 1; d++ {
			n := new(big.Int).Lsh(big.NewInt(1), i)
			check(t, n.Add(n, big.NewInt(d)).String())
		}
	}
}

// P2.1: what isn't just digits without noughts ahead is ErrForm.
func TestForm(t *testing.T) {
	for _, s := range []string{
		"", "00", "01", "007", "000", "0" + top, "0" + strings.Repeat("9", 1000), strings.Repeat("0", 1000),
		"-1", "+1", "-0", "+0", "-", "+", "1-", "1+1",
		" ", " 1", "1 ", "1 1", "\t1", "1\n", "\r\n",
		"x", "a1", "1a", "1e3", "0x1", "0b1", "0o7", "1_000", "1,000", "1.0", ".5", "NaN",
		"/", ":", "1/", "1:", "/1", ":1", "\x00", "1\x00", "\x001", "\xff", "1\xff", "1\x80",
		"٣", "1٣", "１", "²", "é",
	} {
		if a, e := Read(s); a != (api.U128{}) || e != api.ErrForm {
			t.Errorf("Read(%.60q) = %v, %d", s, a, e)
		}
		if n, e := Number(s); n != 0 || e != api.ErrForm {
			t.Errorf("Number(%.60q) = %d, %d", s, n, e)
		}
	}
}

// P2.1: each byte that is no digit is ErrForm, alone, ahead, within and behind; each digit is one.
func TestFormOfBytes(t *testing.T) {
	for c := range 256 {
		b := string([]byte{byte(c)})
		for _, s := range []string{b, b + "1", "1" + b, "1" + b + "2", b + b} {
			check(t, s)
		}
	}
}

// R2: ErrForm is named ahead of ErrOver, wherever the fault stands.
func TestFormAheadOfOver(t *testing.T) {
	long := strings.Repeat("9", 5000)
	for _, s := range []string{long + "x", "x" + long, long + "x" + long, "0" + long, over + " ", " " + over, over64 + "-", "-" + over, "+" + over, over + "\x00"} {
		if a, e := Read(s); a != (api.U128{}) || e != api.ErrForm {
			t.Errorf("Read(%.60q) = %v, %d", s, a, e)
		}
		if n, e := Number(s); n != 0 || e != api.ErrForm {
			t.Errorf("Number(%.60q) = %d, %d", s, n, e)
		}
	}
}

// P2.1: each length of digits, those of nines and those of a one and noughts.
func TestLengths(t *testing.T) {
	for n := 1; n < 120; n++ {
		check(t, strings.Repeat("9", n))
		check(t, "1"+strings.Repeat("0", n))
		check(t, "0"+strings.Repeat("0", n))
		check(t, "0"+strings.Repeat("1", n))
	}
}

// P2.2: a number's text is read as that number.
func TestThereAndBack(t *testing.T) {
	for _, a := range edges() {
		if got, e := Read(Text(a)); got != a || e != api.OK {
			t.Errorf("%v: %v, %d", a, got, e)
		}
		if got, e := Number(Short(a.Lo)); got != a.Lo || e != api.OK {
			t.Errorf("%d: %d, %d", a.Lo, got, e)
		}
	}
}

// oneWay fails where a text is read that isn't its number's text.
func oneWay(t *testing.T, s string) {
	t.Helper()
	if a, e := Read(s); e == api.OK && Text(a) != s {
		t.Errorf("Read(%q) is %v, whose text is %q", s, a, Text(a))
	}
	if n, e := Number(s); e == api.OK && Short(n) != s {
		t.Errorf("Number(%q) is %d, whose text is %q", s, n, Short(n))
	}
}

// P2.2: no text but its own is read as a number: all texts of at most four of some bytes.
func TestOneWay(t *testing.T) {
	texts := []string{""}
	for i := 0; i < len(texts); i++ {
		oneWay(t, texts[i])
		check(t, texts[i])
		if len(texts[i]) == 4 {
			continue
		}
		for _, c := range []byte("0129+- x") {
			texts = append(texts, texts[i]+string(c))
		}
	}
}

// P2.2: unlike numbers have unlike texts, and Short's text is Text's.
func TestTextsUnlike(t *testing.T) {
	seen := map[string]api.U128{}
	for _, a := range edges() {
		s := Text(a)
		if b, ok := seen[s]; ok && a != b {
			t.Errorf("%v and %v are both %q", a, b, s)
		}
		seen[s] = a
		if Short(a.Lo) != Text(api.U128{Lo: a.Lo}) {
			t.Errorf("Short(%d) = %q", a.Lo, Short(a.Lo))
		}
	}
}

// R5: each call begins anew, whatever was told before.
func TestNothingKept(t *testing.T) {
	for range 3 {
		Read("5x")
		Read(over)
		if got := Text(api.U128{Lo: 120}); got != "120" {
			t.Error(got)
		}
		if got, e := Read("120"); got != (api.U128{Lo: 120}) || e != api.OK {
			t.Error(got, e)
		}
	}
}

// P2.1 and P2.2, of any text.
func FuzzRead(f *testing.F) {
	for _, s := range []string{"", "0", "7", "007", "-1", "1 ", text64, over64, top, over} {
		f.Add(s)
	}
	f.Fuzz(func(t *testing.T, s string) {
		check(t, s)
		oneWay(t, s)
	})
}

// P2.1 and P2.2, of any number.
func FuzzText(f *testing.F) {
	f.Add(uint64(0), uint64(0))
	f.Add(uint64(1), uint64(0))
	f.Add(uint64(max64), uint64(max64))
	f.Fuzz(func(t *testing.T, hi, lo uint64) {
		a := api.U128{Hi: hi, Lo: lo}
		s := Text(a)
		if s != bigOf(a).String() {
			t.Errorf("Text(%v) = %q", a, s)
		}
		if got, e := Read(s); got != a || e != api.OK {
			t.Errorf("Read(%q) = %v, %d", s, got, e)
		}
	})
}
