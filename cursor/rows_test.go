package cursor

import (
	"encoding/binary"
	"math"
	"math/rand"
	"testing"

	"cashbook/api"
	"cashbook/pager"
)

// end is an end of a range about a key of a tree, or of any length.
func end(tr int, n uint16) []byte {
	if n%11 == 10 {
		all := edges()
		return all[int(n/11)%len(all)]
	}
	rows := about(keyOf(tr, int(n/7)%200))
	return rows[int(n)%len(rows)]
}

// do does one thing with a tree, and looks at what it tells.
func (s *shelf) do(what byte, tr int, n, m uint16) {
	s.Helper()
	switch what % 12 {
	case 0, 1, 2, 3, 4:
		s.put(tr, int(n)%200, int(m))
	case 5, 6:
		s.cut(tr, int(n)%200)
	case 7:
		s.ok(s.p.Commit())
	case 8:
		s.reopen()
	case 9:
		down := m%2 == 0
		all := s.rangeOf(tr, end(tr, n), end(tr, m), down)
		most := int(n%40) - 5
		if got := List(s.p, tr, end(tr, n), end(tr, m), down, most); !alike(got, all[:max(0, min(most, len(all)))]) {
			s.Fatalf("most %d: %x of %x", most, got, all)
		}
	default:
		s.ask(tr, end(tr, n), end(tr, m))
	}
}

// reopen commits, and opens the disk anew.
func (s *shelf) reopen() {
	s.Helper()
	s.ok(s.p.Commit())
	p, e := pager.Open(s.d)
	s.ok(e)
	s.p = p
}

// Rows of calls by chance.
func TestRows(t *testing.T) {
	for seed := range int64(16) {
		t.Run("", func(t *testing.T) {
			t.Parallel()
			rnd := rand.New(rand.NewSource(seed))
			s := newShelf(t, 1500)
			trees := 1 + rnd.Intn(8)
			for range 600 {
				s.do(byte(rnd.Intn(12)), (int(seed)+rnd.Intn(trees))%8, uint16(rnd.Uint32()), uint16(rnd.Uint32()))
			}
		})
	}
}

// Rows of calls as bytes: what, which tree, and two numbers of two bytes each.
func FuzzRows(f *testing.F) {
	rnd := rand.New(rand.NewSource(2))
	for n := range 8 {
		var row []byte
		for range 60 {
			row = append(row, byte(rnd.Intn(12)), byte(n+rnd.Intn(2)))
			row = binary.BigEndian.AppendUint32(row, rnd.Uint32())
		}
		f.Add(row)
	}
	f.Fuzz(func(t *testing.T, calls []byte) {
		s := newShelf(t, 300)
		for ; len(calls) >= 6 && len(calls) <= 1200; calls = calls[6:] {
			s.do(calls[0], int(calls[1])%8, binary.BigEndian.Uint16(calls[2:]), binary.BigEndian.Uint16(calls[4:]))
		}
		for tr := range 8 {
			s.ask(tr, nil, highest())
		}
	})
}

// Ranges as bytes, of trees that are planted by chance.
func FuzzRange(f *testing.F) {
	for n := range byte(8) {
		f.Add(n, []byte{}, highest(), false, int16(30), int64(n))
		f.Add(n, keyOf(int(n), 7), keyOf(int(n), 40), true, int16(90), int64(n))
		f.Add(n, keyOf(int(n), 40)[1:], []byte{0, 0, 0}, true, int16(-1), int64(n))
	}
	f.Fuzz(func(t *testing.T, n byte, from, to []byte, down bool, most int16, seed int64) {
		tr := int(n % 8)
		s := newShelf(t, 300)
		s.plant(tr, int(n/8)%3, seed, every(1+int(uint64(seed)%240), 1))
		if len(from) > 0 && len(to) > 0 { // Ends that share their beginning with the keys.
			for range 2 {
				k := append(keyOf(tr, int(from[0]))[:max(0, len(keyOf(tr, 0))-1)], from...)
				s.tells(tr, k, to, down, s.rangeOf(tr, k, to, down))
				from, to = to, from
			}
		}
		want := s.rangeOf(tr, from, to, down)
		s.tells(tr, from, to, down, want)
		if got := List(s.p, tr, from, to, down, int(most)); !alike(got, want[:max(0, min(int(most), len(want)))]) {
			t.Fatalf("most %d: %x of %x", most, got, want)
		}
	})
}

// Pages of any nodes, right and wrong, and roots of any sort: no call panics, and each ends, and tells the same again.
func FuzzWrong(f *testing.F) {
	rnd := rand.New(rand.NewSource(3))
	for n := range byte(8) {
		for _, long := range []int{0, 30, 300} {
			b := make([]byte, long)
			rnd.Read(b)
			f.Add(n, b, uint32(3+n%4), uint32(2), int32(n))
		}
	}
	f.Fuzz(func(t *testing.T, tree byte, raw []byte, root, height uint32, most int32) {
		tr := int(tree % 8)
		s := newShelf(t, 12)
		take := func() byte {
			if len(raw) == 0 {
				return 0
			}
			c := raw[0]
			raw = raw[1:]
			return c
		}
		for range 8 {
			kind, body := anyNode(tr, take)
			if _, e := s.p.Make(kind, body); e == api.ErrFull {
				break
			}
			if take() == 77 {
				s.p.Commit()
			}
		}
		s.ok(s.p.SetRoot(tr, api.Root{Page: root, Count: 9, Height: height}))
		for range 6 {
			from, to, down := keyOf(tr, int(take()%20)), keyOf(tr, int(take()%20)), take()%2 == 0
			want := List(s.p, tr, from, to, down, math.MaxInt)
			s.tells(tr, from, to, down, want)
			if got := List(s.p, tr, from, to, down, int(most)); !alike(got, want[:max(0, min(int(most), len(want)))]) {
				t.Fatal(got, want)
			}
		}
	})
}

// anyNode is a node whose keys mostly rise, and whose kids are mostly pages of a small disk; or any bytes.
func anyNode(tr int, take func() byte) (byte, []byte) {
	count, key := int(take()%7), int(take()%6)
	leaf := take()%2 == 0
	body := []byte{0, byte(count)}
	for range count {
		if leaf {
			body = append(append(body, keyOf(tr, key)...), valueOf(tr, key)...)
			key += int(take()%5) + 1
		} else {
			body = append(body, 0, 0, 0, take()%13)
		}
	}
	for i := 1; i < count && !leaf; i++ {
		body = append(body, keyOf(tr, key)...)
		key += int(take()%5) + 1
	}
	for take()%16 == 15 && len(body) < 400 {
		body = append(body, take())
	}
	if leaf {
		return 3, body
	}
	return 4, body
}
