package merge

import (
	"cmp"
	"math"
	"slices"
	"testing"

	"cashbook/api"
)

// last is the greatest number of 64 bits.
const last = math.MaxUint64

// source is what New is handed any number of.
type source = func() (Item, bool)

// model merges lists by the chapter's words alone: each time it looks at what each list would hand over next.
type model struct {
	down bool
	left [][]Item
}

// modelOf is a model ahead of lists.
func modelOf(down bool, lists [][]Item) *model { return &model{down: down, left: slices.Clone(lists)} }

// ahead tells whether a stamp comes ahead of another one.
func (m *model) ahead(a, b uint64) bool {
	if m.down {
		return a > b
	}
	return a < b
}

// next is the next item, of which list it is, and whether there is one.
func (m *model) next() (Item, int, bool) {
	first := -1
	for i, l := range m.left {
		if len(l) > 0 && (first < 0 || m.ahead(l[0].Stamp, m.left[first][0].Stamp)) {
			first = i
		}
	}
	if first < 0 {
		return Item{}, 0, false
	}
	x := m.left[first][0]
	m.left[first] = m.left[first][1:]
	return x, first, true
}

// all are all items that are left.
func (m *model) all() []Item {
	var all []Item
	for {
		x, _, there := m.next()
		if !there {
			return all
		}
		all = append(all, x)
	}
}

// merged is what lists are, made one: lists that are in order, laid one behind the other, and sorted so that those of one stamp stay as they are.
func merged(down bool, lists [][]Item) []Item {
	all := slices.Concat(lists...)
	slices.SortStableFunc(all, func(a, b Item) int {
		if down {
			return cmp.Compare(b.Stamp, a.Stamp)
		}
		return cmp.Compare(a.Stamp, b.Stamp)
	})
	return all
}

// inOrder tells whether each list is in order.
func inOrder(down bool, lists [][]Item) bool {
	for _, l := range lists {
		for i := 1; i < len(l); i++ {
			if (&model{down: down}).ahead(l[i].Stamp, l[i-1].Stamp) {
				return false
			}
		}
	}
	return true
}

// named lets all items of lists be unlike each other, whatever their stamps are.
func named(lists ...[]uint64) [][]Item {
	var all [][]Item
	for i, stamps := range lists {
		var l []Item
		for j, s := range stamps {
			l = append(l, Item{Stamp: s, ID: api.U128{Hi: uint64(i), Lo: uint64(j)}, Side: uint8(i + j)})
		}
		all = append(all, l)
	}
	return all
}

// sources are the lists' sources.
func sources(lists [][]Item) []source {
	var all []source
	for _, l := range lists {
		all = append(all, Of(l))
	}
	return all
}

// checkNext holds what Next answers against what it should.
func checkNext(t testing.TB, m *Merge, want Item) {
	t.Helper()
	if got, there := m.Next(); !there || got != want {
		t.Fatalf("Next answers %v and %v, not %v", got, there, want)
	}
}

// checkNone holds what is answered behind the end against nothing, again and again.
func checkNone(t testing.TB, m *Merge) {
	t.Helper()
	for range 3 {
		if got, there := m.Next(); there || got != (Item{}) {
			t.Fatalf("behind the end Next answers %v and %v", got, there)
		}
		for _, n := range []int{math.MinInt, -1, 0, 1, 2, math.MaxInt} {
			checkMost(t, m, n, nil)
		}
	}
}

// checkMost holds what Most answers against what it should.
func checkMost(t testing.TB, m *Merge, n int, want []Item) {
	t.Helper()
	if got := m.Most(n); !slices.Equal(got, want) {
		t.Fatalf("Most(%d) answers %v, not %v", n, got, want)
	}
}

// checkSource holds what a source hands over against what it should, and asks behind its end again and again.
func checkSource(t testing.TB, s source, want []Item) {
	t.Helper()
	for i, x := range want {
		if got, there := s(); !there || got != x {
			t.Fatalf("item %d of the source is %v and %v, not %v", i, got, there, x)
		}
	}
	for range 3 {
		if got, there := s(); there || got != (Item{}) {
			t.Fatalf("behind its end the source hands over %v and %v", got, there)
		}
	}
}

// checkLists holds what Next, and what Most, tell of lists against the chapter's words.
func checkLists(t testing.TB, down bool, lists [][]Item) {
	t.Helper()
	want := modelOf(down, lists).all()
	if inOrder(down, lists) && !slices.Equal(want, merged(down, lists)) {
		t.Fatalf("the model tells %v of %v", want, lists)
	}
	m := New(down, sources(lists)...)
	for _, x := range want {
		checkNext(t, m, x)
	}
	checkNone(t, m)
	checkMost(t, New(down, sources(lists)...), math.MaxInt, want)
}

// each calls do with every list of at most so many of the stamps.
func each(stamps []uint64, most int, do func([]uint64)) {
	var longer func(l []uint64)
	longer = func(l []uint64) {
		do(slices.Clone(l))
		if len(l) == most {
			return
		}
		for _, s := range stamps {
			longer(append(slices.Clone(l), s))
		}
	}
	longer(nil)
}

// lists are all lists of at most so many of the stamps.
func lists(stamps []uint64, most int) [][]uint64 {
	var all [][]uint64
	each(stamps, most, func(l []uint64) { all = append(all, l) })
	return all
}
