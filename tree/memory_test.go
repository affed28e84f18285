package tree

import (
	"bytes"
	"slices"
	"testing"

	"cashbook/api"
)

// roomy is the same row, with something behind it in its memory.
func roomy(b []byte) []byte { return append(slices.Clone(b), 1, 2, 3)[:len(b)] }

// spoil writes over a row, and over all that lies behind it in its memory.
func spoil(b []byte) {
	b = b[:cap(b)]
	for i := range b {
		b[i] = ^b[i]
	}
}

// R3: keys and values that are handed in aren't changed, nor is what lies behind them; whoever writes into them later changes nothing.
func TestHandedIn(t *testing.T) {
	eachTree(t, func(t *testing.T, tree int) {
		b := newBook(t, 200)
		handed := func(rows [][]byte, call func(rows ...[]byte)) {
			t.Helper()
			var given, was [][]byte
			for _, r := range rows {
				given = append(given, roomy(r))
				was = append(was, slices.Clone(given[len(given)-1][:len(r)+3]))
			}
			call(given...)
			for i, g := range given {
				if !bytes.Equal(g[:len(g)+3], was[i]) {
					t.Fatalf("%x, and was %x", g[:len(g)+3], was[i])
				}
				spoil(g)
			}
			b.check(tree)
		}
		n := min(manyOf(tree), 160)
		for round := range 3 {
			for _, i := range orders(n)["any"] {
				key, value := keyOf(tree, i), valueOf(tree, i+round)
				handed([][]byte{key, value}, func(rows ...[]byte) {
					if e := Put(b.p, tree, rows[0], rows[1]); e != api.OK {
						t.Fatal(e)
					}
					b.now[tree][string(key)] = string(value)
				})
				handed([][]byte{key}, func(rows ...[]byte) {
					if got, e := Get(b.p, tree, rows[0]); e != api.OK || !bytes.Equal(got, value) {
						t.Fatal(e)
					}
				})
				handed([][]byte{key[1:], value[1:]}, func(rows ...[]byte) {
					Put(b.p, tree, rows[0], rows[1])
					Get(b.p, tree, rows[0])
					Cut(b.p, tree, rows[0])
				})
			}
			b.commit()
		}
		for i := range n {
			key := keyOf(tree, i)
			handed([][]byte{key}, func(rows ...[]byte) {
				if e := Cut(b.p, tree, rows[0]); e != api.OK {
					t.Fatal(e)
				}
				delete(b.now[tree], string(key))
			})
		}
	})
}

// R3: what Get tells is nobody else's: whoever writes into it, and what lies behind it, changes neither the tree nor what others were told.
func TestTold(t *testing.T) {
	eachTree(t, func(t *testing.T, tree int) {
		b := newBook(t, 100)
		n := 60
		for i := range n {
			b.put(tree, keyOf(tree, i), valueOf(tree, i))
		}
		for _, committed := range []bool{false, true} {
			if committed {
				b.commit()
			}
			var told [][]byte
			for i := range n {
				for range 2 {
					got, e := Get(b.p, tree, keyOf(tree, i))
					if e != api.OK {
						t.Fatal(e)
					}
					told = append(told, got)
				}
			}
			for i, got := range told {
				if !bytes.Equal(got, valueOf(tree, i/2)) {
					t.Fatal(i, got)
				}
				spoil(got)
				b.get(tree, keyOf(tree, i/2))
			}
			b.checkAll()
		}
	})
}

// R4: no key is the same as one of no bytes.
func TestNil(t *testing.T) {
	b := newBook(t, 40)
	for tree := range 8 {
		for _, none := range [][]byte{nil, {}} {
			b.all(tree, none, none, api.ErrArg)
			b.one("Put", calls(b, tree, keyOf(tree, 1), none)["Put"], api.ErrArg)
		}
	}
}
