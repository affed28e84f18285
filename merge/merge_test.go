package merge

import (
	"math"
	"slices"
	"testing"

	"cashbook/api"
)

// both are the two orders.
var both = []bool{false, true}

// The types are as the chapter says, and items can be compared.
func TestItem(t *testing.T) {
	x := Item{Stamp: uint64(last), ID: api.U128{Hi: last, Lo: last - 1}, Side: uint8(255)}
	y := x
	if x != y {
		t.Error("the same items are unlike")
	}
	for _, other := range []Item{{x.Stamp - 1, x.ID, x.Side}, {x.Stamp, api.U128{Hi: x.ID.Hi - 1, Lo: x.ID.Lo}, x.Side}, {x.Stamp, api.U128{Hi: x.ID.Hi, Lo: x.ID.Lo - 1}, x.Side}, {x.Stamp, x.ID, x.Side - 1}} {
		if x == other {
			t.Errorf("%v is the same as %v", x, other)
		}
	}
	found := map[Item]int{x: 1}
	if found[y] != 1 {
		t.Error("an item isn't found")
	}
}

// P14.1: the chapter's example.
func TestExample(t *testing.T) {
	of := named([]uint64{1, 4}, []uint64{2, 4})
	m := New(false, Of(of[0]), Of(of[1]))
	checkNext(t, m, of[0][0])
	checkNext(t, m, of[1][0])
	checkNext(t, m, of[0][1])
	checkNext(t, m, of[1][1])
	checkNone(t, m)
}

// P14.1: lists told one by one, with what is told of them, by their places.
func TestOrder(t *testing.T) {
	type place struct{ list, item int }
	for _, c := range []struct {
		name  string
		down  bool
		lists [][]uint64
		want  []place
	}{
		{"one", false, [][]uint64{{1, 2, 3}}, []place{{0, 0}, {0, 1}, {0, 2}}},
		{"one, down", true, [][]uint64{{3, 2, 1}}, []place{{0, 0}, {0, 1}, {0, 2}}},
		{"in turn", false, [][]uint64{{1, 3, 5}, {2, 4, 6}}, []place{{0, 0}, {1, 0}, {0, 1}, {1, 1}, {0, 2}, {1, 2}}},
		{"in turn, down", true, [][]uint64{{5, 3, 1}, {6, 4, 2}}, []place{{1, 0}, {0, 0}, {1, 1}, {0, 1}, {1, 2}, {0, 2}}},
		{"one behind the other", false, [][]uint64{{7, 8}, {5, 6}}, []place{{1, 0}, {1, 1}, {0, 0}, {0, 1}}},
		{"one behind the other, down", true, [][]uint64{{5, 4}, {8, 7}}, []place{{1, 0}, {1, 1}, {0, 0}, {0, 1}}},
		{"the earlier source first", false, [][]uint64{{5}, {5}, {5}}, []place{{0, 0}, {1, 0}, {2, 0}}},
		{"the earlier source first, down, too", true, [][]uint64{{5}, {5}, {5}}, []place{{0, 0}, {1, 0}, {2, 0}}},
		{"all of the earlier source first", false, [][]uint64{{5, 5, 5}, {5, 5}}, []place{{0, 0}, {0, 1}, {0, 2}, {1, 0}, {1, 1}}},
		{"all of the earlier source first, down, too", true, [][]uint64{{5, 5}, {5, 5, 5}}, []place{{0, 0}, {0, 1}, {1, 0}, {1, 1}, {1, 2}}},
		{"a stamp that others come ahead of", false, [][]uint64{{2, 5}, {5}, {1, 5}}, []place{{2, 0}, {0, 0}, {0, 1}, {1, 0}, {2, 1}}},
		{"a stamp that others come ahead of, down", true, [][]uint64{{6, 5}, {5}, {7, 5}}, []place{{2, 0}, {0, 0}, {0, 1}, {1, 0}, {2, 1}}},
		{"the least and the greatest", false, [][]uint64{{last, last}, {0, last}, {0, 0, 1, last - 1}}, []place{{1, 0}, {2, 0}, {2, 1}, {2, 2}, {2, 3}, {0, 0}, {0, 1}, {1, 1}}},
		{"the least and the greatest, down", true, [][]uint64{{0, 0}, {last, 0}, {last, last - 1, 1, 0}}, []place{{1, 0}, {2, 0}, {2, 1}, {2, 2}, {0, 0}, {0, 1}, {1, 1}, {2, 3}}},
		{"half of all numbers apart", false, [][]uint64{{1<<63 + 1}, {1 << 63}, {0}, {1<<63 - 1}, {last}}, []place{{2, 0}, {3, 0}, {1, 0}, {0, 0}, {4, 0}}},
		{"half of all numbers apart, down", true, [][]uint64{{1<<63 + 1}, {1 << 63}, {0}, {1<<63 - 1}, {last}}, []place{{4, 0}, {0, 0}, {1, 0}, {3, 0}, {2, 0}}},
		{"32 bits apart", false, [][]uint64{{1 << 32}, {1}, {1<<32 + 1}, {0}}, []place{{3, 0}, {1, 0}, {0, 0}, {2, 0}}},
		{"none ahead, between and behind", false, [][]uint64{{}, {2}, {}, {1}, {}}, []place{{3, 0}, {1, 0}}},
		{"ends at different times", false, [][]uint64{{1}, {1, 2}, {1, 2, 3}}, []place{{0, 0}, {1, 0}, {2, 0}, {1, 1}, {2, 1}, {2, 2}}},
		{"not in order", false, [][]uint64{{9, 1, 5}, {4, 8, 2}}, []place{{1, 0}, {1, 1}, {1, 2}, {0, 0}, {0, 1}, {0, 2}}},
		{"not in order, down", true, [][]uint64{{1, 9, 5}, {6, 2, 8}}, []place{{1, 0}, {1, 1}, {1, 2}, {0, 0}, {0, 1}, {0, 2}}},
		{"falling, and asked to rise", false, [][]uint64{{3, 2, 1}, {3, 2, 1}}, []place{{0, 0}, {0, 1}, {0, 2}, {1, 0}, {1, 1}, {1, 2}}},
		{"rising, and asked to fall", true, [][]uint64{{1, 2, 3}, {2}}, []place{{1, 0}, {0, 0}, {0, 1}, {0, 2}}},
	} {
		t.Run(c.name, func(t *testing.T) {
			of := named(c.lists...)
			m := New(c.down, sources(of)...)
			var want []Item
			for _, p := range c.want {
				want = append(want, of[p.list][p.item])
				checkNext(t, m, of[p.list][p.item])
			}
			checkNone(t, m)
			checkMost(t, New(c.down, sources(of)...), len(want), want)
			checkLists(t, c.down, of)
		})
	}
}

// P14.1: no source, and sources of nothing.
func TestNothing(t *testing.T) {
	for _, down := range both {
		checkNone(t, New(down))
		checkNone(t, New(down, []source{}...))
		checkNone(t, New(down, []source(nil)...))
		checkNone(t, New(down, Of(nil)))
		checkNone(t, New(down, Of([]Item{}), Of(nil), Of([]Item{})))
	}
}

// P14.1: one source, of any items, is told as it is, whether it is in order or not.
func TestOne(t *testing.T) {
	for _, down := range both {
		for _, stamps := range lists([]uint64{0, 1, last}, 5) {
			of := named(stamps)
			checkLists(t, down, of)
			checkMost(t, New(down, Of(of[0])), math.MaxInt, of[0])
		}
	}
}

// P14.1: all twos and threes of short lists, those that aren't in order, too.
func TestFewSources(t *testing.T) {
	t.Parallel()
	for _, down := range both {
		two := lists([]uint64{0, 1, 2, last}, 3)
		for _, a := range two {
			for _, b := range two {
				checkLists(t, down, named(a, b))
			}
		}
		three := lists([]uint64{4, 5}, 3)
		for _, a := range three {
			for _, b := range three {
				for _, c := range three {
					checkLists(t, down, named(a, b, c))
				}
			}
		}
	}
}

// P14.1: every number of sources up to many, each with one item, in every turn; so the heap has every size.
func TestManySources(t *testing.T) {
	for n := range 70 {
		for by := 1; by < 7; by++ {
			var stamps [][]uint64
			for i := range n {
				stamps = append(stamps, []uint64{uint64(i * by % (n + 1)), uint64(i*by%(n+1) + i%3)})
			}
			for _, down := range both {
				checkLists(t, down, named(stamps...))
			}
		}
	}
}

// P14.1: many sources of one stamp hand it over in their order.
func TestManyOfOneStamp(t *testing.T) {
	for _, down := range both {
		for _, stamp := range []uint64{0, 7, last} {
			var stamps [][]uint64
			for i := range 5000 {
				stamps = append(stamps, slices.Repeat([]uint64{stamp}, i%3))
			}
			of := named(stamps...)
			checkMost(t, New(down, sources(of)...), math.MaxInt, slices.Concat(of...))
		}
	}
}

// P14.1: numbers and sides are any, and nothing hangs on them.
func TestAnyNumbersAndSides(t *testing.T) {
	for _, down := range both {
		for _, a := range []api.U128{{}, {Lo: 1}, {Hi: 1}, {Lo: last}, {Hi: last}, {Hi: last, Lo: last}} {
			for _, b := range []api.U128{{}, {Lo: 1}, {Hi: last, Lo: last}} {
				for _, side := range []uint8{0, 1, 2, 128, 255} {
					x, y := Item{5, a, side}, Item{5, b, 255 - side}
					m := New(down, Of([]Item{x}), Of([]Item{y, x}), Of([]Item{y}))
					checkMost(t, m, 9, []Item{x, y, x, y})
				}
			}
		}
	}
}

// P14.1: Most with each of two numbers, and then all the rest; fewer than there are, as many, and more.
func TestMost(t *testing.T) {
	of := named([]uint64{1, 3, 3, 8}, []uint64{}, []uint64{2, 3, 9})
	want := modelOf(false, of).all()
	for first := range 10 {
		for second := range 10 {
			m := New(false, sources(of)...)
			a := min(first, len(want))
			b := min(a+second, len(want))
			checkMost(t, m, first, want[:a])
			checkMost(t, m, second, want[a:b])
			for _, n := range []int{0, -1, math.MinInt} {
				checkMost(t, m, n, nil)
			}
			checkMost(t, m, math.MaxInt, want[b:])
			checkNone(t, m)
		}
	}
}

// P14.1: Most mixed with Next, in every way.
func TestMostAndNext(t *testing.T) {
	of := named([]uint64{1, 3, 3, 8}, []uint64{2, 3, 9})
	each([]uint64{0, 1, 2, 3, 4}, 4, func(calls []uint64) {
		m, should := New(false, sources(of)...), modelOf(false, of)
		for _, c := range calls {
			if c == 4 {
				want, _, there := should.next()
				if got, ok := m.Next(); got != want || ok != there {
					t.Fatalf("calls %v: %v and %v, not %v and %v", calls, got, ok, want, there)
				}
				continue
			}
			var want []Item
			for range int(c) {
				if x, _, there := should.next(); there {
					want = append(want, x)
				}
			}
			checkMost(t, m, int(c), want)
		}
		checkMost(t, m, 99, should.all())
		checkNone(t, m)
	})
}

// P14.1: below 0 counts as 0, ahead of the first item, between two, and behind the end.
func TestMostBelowNought(t *testing.T) {
	of := named([]uint64{1, 2})
	for _, n := range []int{0, -1, -2, math.MinInt32, math.MinInt} {
		m := New(false, sources(of)...)
		checkMost(t, m, n, nil)
		checkNext(t, m, of[0][0])
		checkMost(t, m, n, nil)
		checkNext(t, m, of[0][1])
		checkMost(t, m, n, nil)
		checkNone(t, m)
	}
}

// P14.1: a source of a list hands it over in its order, as it stands, and then nothing, for ever.
func TestOf(t *testing.T) {
	checkSource(t, Of(nil), nil)
	checkSource(t, Of([]Item{}), nil)
	for _, stamps := range lists([]uint64{0, 5, last}, 4) {
		l := named(stamps)[0]
		checkSource(t, Of(l), l)
	}
	nought := make([]Item, 4)
	checkSource(t, Of(nought), nought)
	long := named(slices.Repeat([]uint64{3, 1, 2}, 1000))[0]
	checkSource(t, Of(long), long)
}

// P14.1: items that are zero are items as others.
func TestZeroItems(t *testing.T) {
	for _, down := range both {
		m := New(down, Of(make([]Item, 2)), Of(make([]Item, 1)))
		for range 3 {
			checkNext(t, m, Item{})
		}
		checkNone(t, m)
	}
}

// P14.1: two sources of one list have nothing of each other.
func TestTwoOfOne(t *testing.T) {
	l := named([]uint64{1, 2, 3})[0]
	a, b := Of(l), Of(l)
	if x, there := a(); !there || x != l[0] {
		t.Fatal(x, there)
	}
	checkSource(t, b, l)
	checkSource(t, a, l[1:])
}

// P14.1: two mergers side by side, asked in turn, have nothing of each other.
func TestSideBySide(t *testing.T) {
	up, down := named([]uint64{1, 3, 5}, []uint64{3, 4}), named([]uint64{9, 3}, []uint64{8, 3, 1})
	a, b := New(false, sources(up)...), New(true, sources(down)...)
	wantA, wantB := modelOf(false, up).all(), modelOf(true, down).all()
	for i := range wantA {
		checkNext(t, a, wantA[i])
		checkMost(t, b, 1, wantB[i:i+1])
	}
	checkNone(t, a)
	checkNone(t, b)
}

// P14.1: a merger's Next is a source, too.
func TestOfMergers(t *testing.T) {
	for _, down := range both {
		each([]uint64{5, 6}, 4, func(stamps []uint64) {
			if !down {
				slices.Sort(stamps)
			} else {
				slices.SortFunc(stamps, func(a, b uint64) int { return int(b) - int(a) })
			}
			of := named(stamps, stamps, []uint64{5}, stamps)
			s := sources(of)
			m := New(down, New(down, s[:2]...).Next, New(down).Next, New(down, s[2:]...).Next)
			checkMost(t, m, math.MaxInt, merged(down, of))
			checkNone(t, m)
		})
	}
}

// P14.1: sources that have no end are told as far as they are asked for.
func TestEndless(t *testing.T) {
	count := func(from, by uint64) source {
		return func() (Item, bool) {
			from += by
			return Item{Stamp: from - by}, true
		}
	}
	m := New(false, count(0, 3), count(1, 3), Of(named([]uint64{4})[0]), count(2, 3))
	for i := range uint64(3000) {
		want := i
		if i > 4 {
			want = i - 1
		}
		if x, there := m.Next(); !there || x.Stamp != want {
			t.Fatalf("%d: %v and %v", i, x, there)
		}
	}
	if l := m.Most(3000); len(l) != 3000 || l[0].Stamp != 2999 || l[2999].Stamp != 5998 {
		t.Error(len(l), l[0])
	}
}

// P14.1: beside false there is nothing, whatever a source says beside it; what it says isn't taken for an item.
func TestBesideFalse(t *testing.T) {
	x := Item{Stamp: 1, ID: api.U128{Hi: 2, Lo: 3}, Side: 4}
	lies := func() (Item, bool) { return x, false }
	y := Item{Stamp: 2}
	for _, down := range both {
		m := New(down, lies, Of([]Item{y}), lies)
		checkNext(t, m, y)
		checkNone(t, m)
		checkNone(t, New(down, lies))
	}
}

// R1: a source that is nil, or that panics, hands over nothing any more; the others' items are told.
func TestNoSource(t *testing.T) {
	of := named([]uint64{1, 4}, []uint64{2, 3, 5})
	want := merged(false, of)
	checkNone(t, New(false, nil))
	checkNone(t, New(true, nil, nil))
	checkMost(t, New(false, nil, Of(of[0]), nil, Of(of[1]), nil), math.MaxInt, want)
	for n := range 4 {
		for _, what := range []any{"fault", error(nil), 7} {
			left := n
			falls := func() (Item, bool) {
				if left == 0 {
					panic(what)
				}
				left--
				return Item{Stamp: 2}, true
			}
			m := New(false, Of(of[0]), falls, Of(of[1]))
			checkNext(t, m, of[0][0])
			checkMost(t, m, n, slices.Repeat([]Item{{Stamp: 2}}, n))
			checkMost(t, m, math.MaxInt, want[1:])
			checkNone(t, m)
		}
	}
}

// R1: a source that asks the very merger that asks it lets every call end.
func TestItself(t *testing.T) {
	for _, first := range both {
		var m *Merge
		own := func() (Item, bool) { return m.Next() }
		l := named([]uint64{1, 2, 3})[0]
		if m = New(false, Of(l), own); first {
			m = New(false, own, Of(l))
		}
		if got := m.Most(99); len(got) > len(l) {
			t.Errorf("%v of %v", got, l)
		}
		checkNone(t, m)
	}
}

// R5: the same calls answer the same, whatever was asked of others between.
func TestSameAgain(t *testing.T) {
	of := named([]uint64{1, 3, 3}, []uint64{3, 3, 2}, []uint64{0, 9})
	want := modelOf(false, of).all()
	for range 50 {
		New(true, sources(of)...).Most(3)
		checkMost(t, New(false, sources(of)...), 99, want)
	}
}
