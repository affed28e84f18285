package merge

import (
	"math/rand"
	"slices"
	"testing"

	"cashbook/api"
)

// checkRow holds a row of calls against the chapter's words, each byte a call: Next, or Most of a number; what is taken of the sources, too.
func checkRow(t testing.TB, down bool, lists [][]Item, calls []byte) {
	t.Helper()
	m, should := New(down, sources(lists)...), modelOf(down, lists)
	c := count(t, down, lists)
	c.quiet()
	for _, call := range calls {
		if call%2 == 0 {
			x, _, there := should.next()
			if got, ok := m.Next(); got != x || ok != there {
				t.Fatalf("Next answers %v and %v, not %v and %v", got, ok, x, there)
			}
			c.next()
			continue
		}
		var want []Item
		n := int(call)/2%9 - 2
		for range n {
			c.next()
			if x, _, there := should.next(); there {
				want = append(want, x)
			}
		}
		checkMost(t, m, n, want)
	}
	checkMost(t, m, 1<<40, should.all())
	checkNone(t, m)
}

// byChance are lists by chance, of stamps below a number, or of any.
func byChance(r *rand.Rand, down bool) [][]Item {
	all := make([][]Item, r.Intn(7))
	near, order := uint64(1+r.Intn(9)), r.Intn(3) > 0
	for i := range all {
		for range r.Intn(9) {
			x := Item{Stamp: r.Uint64(), ID: api.U128{Hi: r.Uint64(), Lo: r.Uint64()}, Side: uint8(r.Uint32())}
			if near > 1 {
				x.Stamp %= near
			}
			all[i] = append(all[i], x)
		}
		if order {
			all[i] = merged(down, [][]Item{all[i]})
		}
	}
	return all
}

// P14.1, P14.2: lists and calls by chance.
func TestRows(t *testing.T) {
	r := rand.New(rand.NewSource(14))
	for range 6000 {
		down := r.Intn(2) == 0
		calls := make([]byte, r.Intn(20))
		r.Read(calls)
		checkRow(t, down, byChance(r, down), calls)
	}
}

// P14.1: long lists, and many of them.
func TestLong(t *testing.T) {
	r := rand.New(rand.NewSource(41))
	for _, n := range []int{1, 2, 3, 100} {
		for _, down := range both {
			var stamps [][]uint64
			for range n {
				l := make([]uint64, r.Intn(20000/n))
				for i := range l {
					l[i] = r.Uint64() % 5000
				}
				slices.Sort(l)
				if down {
					slices.Reverse(l)
				}
				stamps = append(stamps, l)
			}
			of := named(stamps...)
			checkMost(t, New(down, sources(of)...), 1<<40, merged(down, of))
		}
	}
}

// FuzzRows: any lists, and any calls. Of the lists' bytes each is a stamp; 255 begins the next list, and 254 is the greatest stamp.
func FuzzRows(f *testing.F) {
	f.Add(false, []byte{1, 4, 255, 2, 4}, []byte{0, 0, 9, 1})
	f.Add(true, []byte{9, 5, 1, 255, 255, 7, 5, 5}, []byte{13, 3, 255})
	f.Add(false, []byte{}, []byte{0})
	f.Add(true, []byte{255, 255, 254, 0, 254}, []byte{17, 1, 0})
	f.Fuzz(func(t *testing.T, down bool, stamps, calls []byte) {
		if len(stamps) > 300 || len(calls) > 100 {
			t.Skip()
		}
		of := [][]uint64{nil}
		for _, s := range stamps {
			switch s {
			case 255:
				of = append(of, nil)
			case 254:
				of[len(of)-1] = append(of[len(of)-1], last)
			default:
				of[len(of)-1] = append(of[len(of)-1], uint64(s))
			}
		}
		checkRow(t, down, named(of...), calls)
		checkLists(t, down, named(of...))
	})
}
