package cursor

import (
	"bytes"
	"encoding/binary"
	"math"
	"slices"
	"testing"

	"cashbook/api"
	"cashbook/disk"
	"cashbook/pager"
	"cashbook/tree"
)

// roomy is the same row, with something behind it in its memory.
func roomy(b []byte) []byte { return append(slices.Clone(b), 4, 5, 6)[:len(b)] }

// spoil writes over a row, and over all that lies behind it in its memory.
func spoil(b []byte) {
	b = b[:cap(b)]
	for i := range b {
		b[i] = ^b[i]
	}
}

// handed are rows as they were handed in, and what they were, with what lies behind them.
type handed struct{ given, was [][]byte }

// hand makes rows ready.
func hand(rows ...[]byte) *handed {
	h := &handed{}
	for _, r := range rows {
		g := roomy(r)
		h.given = append(h.given, g)
		h.was = append(h.was, slices.Clone(g[:len(g)+3]))
	}
	return h
}

// same looks whether they are as they were.
func (h *handed) same(t *testing.T) {
	t.Helper()
	for i, g := range h.given {
		if !bytes.Equal(g[:len(g)+3], h.was[i]) {
			t.Fatalf("%x, and was %x", g[:len(g)+3], h.was[i])
		}
	}
}

// spoil writes over them.
func (h *handed) spoil() {
	for _, g := range h.given {
		spoil(g)
	}
}

// R3: from and to aren't changed, nor is what lies behind them; whoever writes into them behind Start or Walk, or while these are under way, changes nothing.
func TestHandedIn(t *testing.T) {
	eachTree(t, func(t *testing.T, tr int) {
		s := newShelf(t, 400)
		s.plant(tr, chance, 4, tall(tr, 2))
		n := len(s.has[tr])
		for _, r := range [][2][]byte{{keyOf(tr, 3), keyOf(tr, n)}, {keyOf(tr, 2), keyOf(tr, 2)}, {nil, highest()}, {keyOf(tr, n), keyOf(tr, 1)}, {highest(), {}}} {
			for _, down := range []bool{false, true} {
				want := s.rangeOf(tr, r[0], r[1], down)
				look := func(name string, got []Pair) {
					t.Helper()
					if !alike(got, want) {
						t.Fatalf("%s from %x to %x, down %v: %x, and should be %x", name, r[0], r[1], down, got, want)
					}
				}
				h := hand(r[0], r[1])
				look("List", List(s.p, tr, h.given[0], h.given[1], down, math.MaxInt))
				h.same(t)
				c := Start(s.p, tr, h.given[0], h.given[1], down)
				h.same(t)
				h.spoil()
				look("Next", byNext(s, c))
				h = hand(r[0], r[1])
				walk := Walk(s.p, tr, h.given[0], h.given[1], down)
				look("Walk", byWalk(walk))
				h.same(t)
				h.spoil()
				look("Walk, anew", byWalk(walk))
				var got []Pair
				for k, v := range walk {
					h.spoil()
					got = append(got, Pair{k, v})
				}
				look("Walk, under way", got)
				h = hand(r[0], r[1])
				c = Start(s.p, tr, h.given[0], h.given[1], down)
				got = nil
				for pair, there := c.Next(); there; pair, there = c.Next() {
					h.same(t)
					got = append(got, pair)
					h.spoil()
					h.spoil()
				}
				look("Next, under way", got)
			}
		}
	})
}

// own looks whether pairs have memory of their own, each key and each value: whoever writes into one changes no other one.
func own(t *testing.T, all []Pair) {
	t.Helper()
	var rows, was [][]byte
	for _, pair := range all {
		rows = append(rows, pair.Key, pair.Value)
		was = append(was, slices.Clone(pair.Key), slices.Clone(pair.Value))
	}
	for i, r := range rows {
		spoil(r)
		for j := max(0, i-6); j < min(i+7, len(rows)); j++ {
			if j > i && !bytes.Equal(rows[j], was[j]) || j < i && bytes.Equal(rows[j], was[j]) {
				t.Fatalf("row %d was written into, and row %d is %x, and was %x", i, j, rows[j], was[j])
			}
		}
	}
}

// R3: what is told is nobody else's: whoever writes into it changes neither the tree, nor what others were told, nor what is told from then on.
func TestTold(t *testing.T) {
	eachTree(t, func(t *testing.T, tr int) {
		for _, committed := range []bool{false, true} {
			s := newShelf(t, 400)
			s.plant(tr, chance, 4, tall(tr, 2))
			if committed {
				s.ok(s.p.Commit())
			}
			for _, down := range []bool{false, true} {
				want := s.rangeOf(tr, nil, highest(), down)
				look := func(got []Pair) {
					t.Helper()
					if !alike(got, want) {
						t.Fatalf("%x, and should be %x", got, want)
					}
				}
				own(t, List(s.p, tr, nil, highest(), down, math.MaxInt))
				walk := Walk(s.p, tr, nil, highest(), down)
				own(t, byWalk(walk))
				own(t, byNext(s, Start(s.p, tr, nil, highest(), down)))
				var got []Pair
				for k, v := range walk {
					got = append(got, Pair{slices.Clone(k), slices.Clone(v)})
					spoil(k)
					spoil(v)
				}
				look(got)
				c, other := Start(s.p, tr, nil, highest(), down), Start(s.p, tr, nil, highest(), down)
				got = nil
				for pair, there := c.Next(); there; pair, there = c.Next() {
					got = append(got, Pair{slices.Clone(pair.Key), slices.Clone(pair.Value)})
					spoil(pair.Key)
					spoil(pair.Value)
				}
				look(got)
				look(byNext(s, other))
				look(byWalk(walk))
				first, second := List(s.p, tr, nil, highest(), down, 9), List(s.p, tr, nil, highest(), down, 9)
				for i := range first {
					spoil(first[i].Key)
					spoil(first[i].Value)
				}
				if !alike(second, want[:len(second)]) {
					t.Fatalf("%x", second)
				}
			}
			s.ask(tr, nil, highest())
			for k, v := range s.has[tr] {
				if got, e := tree.Get(s.p, tr, []byte(k)); e != api.OK || string(got) != v {
					t.Fatal(got, e)
				}
			}
		}
	})
}

// A List that is appended to, and written into, is one's own.
func TestLists(t *testing.T) {
	s := newShelf(t, 100)
	for n := range 20 {
		s.put(0, n, n)
	}
	first := List(s.p, 0, nil, highest(), false, 7)
	_ = append(first[:2], Pair{Key: []byte{1}})
	second := List(s.p, 0, nil, highest(), false, 7)
	if !alike(second, s.rangeOf(0, nil, highest(), false)[:7]) {
		t.Errorf("%x", second)
	}
}

// R4: no row is the same as one of no bytes.
func TestNil(t *testing.T) {
	s := newShelf(t, 100)
	for tr := range 8 {
		for n := range 20 {
			s.put(tr, n, n)
		}
		for _, end := range [][]byte{nil, {}, keyOf(tr, 7), highest()} {
			for _, down := range []bool{false, true} {
				s.tells(tr, nil, end, down, s.rangeOf(tr, []byte{}, end, down))
				s.tells(tr, []byte{}, end, down, s.rangeOf(tr, nil, end, down))
				s.tells(tr, end, nil, down, nil)
				s.tells(tr, end, []byte{}, down, nil)
			}
		}
	}
}

// state is all that can be told of a pager and its disk.
func (s *shelf) state() string {
	all := binary.BigEndian.AppendUint64(nil, s.p.Seq())
	for tr := range 8 {
		r := s.p.Root(tr)
		for _, n := range []uint32{r.Page, r.Count, r.Height} {
			all = binary.BigEndian.AppendUint32(all, n)
		}
	}
	for _, l := range [][]uint32{s.p.Free(), s.p.Lists(), s.p.Deferred(), s.p.Fresh()} {
		for _, n := range append(l, 0) {
			all = binary.BigEndian.AppendUint32(all, n)
		}
	}
	for n := range s.d.Blocks() {
		kind, body, e := s.p.Read(uint32(n))
		block, _ := s.d.Read(n)
		all = slices.Concat(all, []byte{kind, byte(e)}, body, block)
	}
	return string(all)
}

// No call changes anything of the pager, or of its disk, whatever it is asked, and whether it can be read or not.
func TestNothingChanges(t *testing.T) {
	for tr := range 8 {
		s := newShelf(t, 120)
		for n := range 40 {
			s.put(tr, n, n)
		}
		s.ok(s.p.Commit())
		for n := range 9 {
			s.put(tr, n, n+1)
		}
		for _, spoiled := range []bool{false, true} {
			if spoiled {
				s.ok(s.p.Put(s.p.Fresh()[0], 3, nil))
			}
			m := s.p.Save()
			was := s.state()
			for _, from := range edges() {
				for _, to := range [][]byte{nil, highest(), keyOf(tr, 20)} {
					for _, down := range []bool{false, true} {
						for _, asked := range []int{tr, tr - 1, 8} {
							byNext(s, Start(s.p, asked, from, to, down))
							byWalk(Walk(s.p, asked, from, to, down))
							List(s.p, asked, from, to, down, 5)
						}
					}
				}
				if s.state() != was {
					t.Fatal("something has changed")
				}
			}
			s.ok(s.p.Back(m))
			s.d.Fuse(3) // Reading is no act of the disk.
			List(s.p, tr, nil, highest(), false, math.MaxInt)
			if s.d.Down() {
				t.Fatal("the disk fell")
			}
			s.d.Crash(nil)
		}
	}
}

// R5: the same of two disks, whatever else was asked of one of them.
func TestTheSame(t *testing.T) {
	run := func(often int) []byte {
		d, _ := disk.New(300)
		if e := pager.Format(d); e != api.OK {
			t.Fatal(e)
		}
		p, _ := pager.Open(d)
		var all []byte
		for i := range 700 {
			tr := i % 8
			tree.Put(p, tr, keyOf(tr, i*37%113), valueOf(tr, i))
			if i%70 == 0 {
				p.Commit()
			}
			for n := range often {
				List(p, n%8, keyOf(n%8, i), highest(), n%2 == 0, n)
			}
			for _, pair := range List(p, tr, keyOf(tr, i%60), keyOf(tr, 60+i%70), i%3 == 0, i%17) {
				all = append(append(all, pair.Key...), pair.Value...)
			}
		}
		return all
	}
	if first := run(0); len(first) < 5000 || !bytes.Equal(first, run(3)) {
		t.Error("two disks were told the same, and tell other things")
	}
}
