package merge

import (
	"math"
	"testing"
)

// counted are lists' sources that count: how often each was asked, how many items were taken of it, and how many handed on.
type counted struct {
	testing.TB
	lists               [][]Item
	asked, taken, given []int
	merge               *Merge
	should              *model
}

// count makes a merger of sources that count.
func count(t testing.TB, down bool, lists [][]Item) *counted {
	t.Helper()
	n := len(lists)
	c := &counted{TB: t, lists: lists, asked: make([]int, n), taken: make([]int, n), given: make([]int, n), should: modelOf(down, lists)}
	var all []source
	for i := range lists {
		all = append(all, func() (Item, bool) { return c.hand(i) })
	}
	c.merge = New(down, all...)
	return c
}

// hand is what a source hands over; who takes it may have taken no item that it hasn't handed on.
func (c *counted) hand(i int) (Item, bool) {
	c.Helper()
	c.asked[i]++
	if c.taken[i] == len(c.lists[i]) {
		return Item{}, false
	}
	if c.taken[i] > c.given[i] {
		c.Fatalf("source %d of %v is asked for an item while it has handed over %d, of which %d were handed on", i, c.lists, c.taken[i], c.given[i])
	}
	c.taken[i]++
	return c.lists[i][c.taken[i]-1], true
}

// look holds what was taken against what was handed on.
func (c *counted) look() {
	c.Helper()
	for i := range c.lists {
		if c.taken[i] > c.given[i]+1 {
			c.Fatalf("of source %d of %v %d were taken, and %d were handed on", i, c.lists, c.taken[i], c.given[i])
		}
	}
}

// quiet looks whether no source was asked as yet.
func (c *counted) quiet() {
	c.Helper()
	for i, n := range c.asked {
		if n != 0 {
			c.Fatalf("source %d of %v was asked %d times", i, c.lists, n)
		}
	}
}

// next asks for the next item, and holds it and what was taken against the chapter's words.
func (c *counted) next() {
	c.Helper()
	// While the call is under way its item isn't handed on as yet.
	got, there := c.merge.Next()
	want, i, ok := c.should.next()
	if got != want || there != ok {
		c.Fatalf("%v and %v of %v, not %v and %v", got, there, c.lists, want, ok)
	}
	if there {
		c.given[i]++
	}
	c.look()
}

// P14.2: ahead of the first Next no source is asked, neither by New, nor by Most of 0 or less.
func TestNotAskedAhead(t *testing.T) {
	for _, down := range both {
		for _, of := range [][][]Item{nil, named([]uint64{}), named([]uint64{1, 2}), named([]uint64{3}, []uint64{}, []uint64{5, 6, 7})} {
			c := count(t, down, of)
			c.quiet()
			for _, n := range []int{0, -1, math.MinInt, 0} {
				checkMost(t, c.merge, n, nil)
				c.quiet()
			}
		}
	}
}

// P14.2: Of doesn't ask, either, and a merger of mergers asks none ahead of its own first Next.
func TestNotAskedThroughMergers(t *testing.T) {
	c := count(t, false, named([]uint64{1, 2}, []uint64{3}))
	m := New(false, c.merge.Next, Of(named([]uint64{2})[0]))
	c.quiet()
	m.Most(0)
	c.quiet()
	if x, there := m.Next(); !there || x != c.lists[0][0] {
		t.Fatal(x, there)
	}
}

// P14.2: behind each Next at most one item more of each source was taken than was handed on; so while it is under way.
func TestOneMoreAtMost(t *testing.T) {
	for _, down := range both {
		two := lists([]uint64{0, 5, last}, 3)
		for _, a := range two {
			for _, b := range two {
				c := count(t, down, named(a, b))
				for range len(a) + len(b) + 3 {
					c.next()
				}
			}
		}
	}
}

// P14.2: Most of 0 or less takes nothing between two items, either.
func TestMostOfNoughtTakesNothing(t *testing.T) {
	c := count(t, false, named([]uint64{1, 4, 5}, []uint64{2, 3, 6}))
	for range 8 {
		c.next()
		was := [2]int{c.asked[0], c.asked[1]}
		for _, n := range []int{0, -1, math.MinInt} {
			checkMost(t, c.merge, n, nil)
		}
		if now := [2]int{c.asked[0], c.asked[1]}; now != was {
			t.Fatalf("asked %v times, and then %v", was, now)
		}
	}
}

// P14.2: Most takes no more than as many calls of Next, in each number of it.
func TestMostTakesNoMore(t *testing.T) {
	of := named([]uint64{1, 2, 2, 7}, []uint64{2, 2, 3}, []uint64{}, []uint64{9})
	for n := range 11 {
		c, by := count(t, false, of), count(t, false, of)
		// What it hands on is handed on at its end alone: so its sources hand over without being asked what was handed on.
		for i := range c.given {
			c.given[i] = len(of[i])
		}
		got := c.merge.Most(n)
		for i := range c.given {
			c.given[i] = 0
		}
		for range got {
			_, i, _ := c.should.next()
			c.given[i]++
			by.next()
		}
		c.look()
		if len(got) < n {
			by.next()
		}
		for i := range of {
			if c.asked[i] != by.asked[i] {
				t.Errorf("Most(%d) asks source %d %d times, and Next %d times", n, i, c.asked[i], by.asked[i])
			}
		}
	}
}

// P14.2: a source that has said false may be asked again without harm: what the others hand over is told, and the end stays the end.
func TestFalseAgain(t *testing.T) {
	for _, down := range both {
		c := count(t, down, named([]uint64{}, []uint64{5}, []uint64{5, 5, 5}, []uint64{}))
		for range 12 {
			c.next()
		}
		checkNone(t, c.merge)
		for i := range c.lists {
			if x, there := c.hand(i); there || x != (Item{}) {
				t.Fatalf("source %d says %v and %v", i, x, there)
			}
		}
		checkNone(t, c.merge)
	}
}

// P14.2: of an endless source, too, no more is taken.
func TestEndlessIsLazy(t *testing.T) {
	asked := [3]int{}
	endless := func(i int) source {
		return func() (Item, bool) {
			asked[i]++
			return Item{Stamp: uint64(asked[i]), Side: uint8(i)}, true
		}
	}
	m := New(false, endless(0), endless(1), endless(2))
	if asked != [3]int{} {
		t.Fatal(asked)
	}
	var given [3]int
	for n := range 40 {
		for _, x := range m.Most(n) {
			given[x.Side]++
		}
		for i := range asked {
			if asked[i] > given[i]+1 {
				t.Fatalf("asked %v, handed on %v", asked, given)
			}
		}
	}
}
