package merge

import (
	"math"
	"slices"
	"testing"

	"cashbook/api"
)

// other is an item that no list has.
var other = Item{Stamp: 77, ID: api.U128{Hi: 77, Lo: 77}, Side: 77}

// roomy is the same list, with something behind it in its memory.
func roomy(l []Item) []Item { return append(slices.Clone(l), other, other, other)[:len(l)] }

// spoil writes over a list, and over all that lies behind it in its memory.
func spoil(l []Item) {
	l = l[:cap(l)]
	for i := range l {
		l[i].Stamp, l[i].Side = ^l[i].Stamp, ^l[i].Side
	}
}

// R3: what Of is handed isn't changed, nor is what lies behind it in its memory; whoever writes into it later changes nothing, whether the source was asked already or not.
func TestOfKeepsNothing(t *testing.T) {
	want := named([]uint64{1, 2, 3, 4})[0]
	for asked := range len(want) + 2 {
		l := roomy(want)
		s := Of(l)
		for i := range asked {
			if x, there := s(); there != (i < len(want)) || there && x != want[i] {
				t.Fatal(i, x, there)
			}
		}
		if !slices.Equal(l, want) || !slices.Equal(l[:cap(l)][len(l):len(l)+3], []Item{other, other, other}) {
			t.Fatal(l[:cap(l)])
		}
		spoil(l)
		_ = append(l, other)
		checkSource(t, s, want[min(asked, len(want)):])
	}
}

// R3: a merger of sources whose lists are written into tells what they were.
func TestMergeKeepsNoLists(t *testing.T) {
	of := named([]uint64{1, 4}, []uint64{2, 4})
	want := merged(false, of)
	for asked := range len(want) + 1 {
		a, b := roomy(of[0]), roomy(of[1])
		m := New(false, Of(a), Of(b))
		checkMost(t, m, asked, want[:asked])
		spoil(a)
		spoil(b)
		checkMost(t, m, math.MaxInt, want[asked:])
		checkNone(t, m)
	}
}

// R3: the list of sources isn't changed, and isn't kept: whoever writes into it later, ahead of the first Next, between two, or behind the end, changes nothing.
func TestNewKeepsNoList(t *testing.T) {
	of := named([]uint64{1, 4}, []uint64{2, 4}, []uint64{3})
	want := merged(false, of)
	fault := func() (Item, bool) {
		t.Error("a source is asked that was written into the list later, or that lay behind it")
		return other, true
	}
	for asked := range len(want) + 2 {
		all := sources(of)
		given := append(slices.Clone(all), fault, fault)[:len(all)]
		m := New(false, given...)
		n := min(asked, len(want))
		checkMost(t, m, asked, want[:n])
		for i := range given {
			given[i] = fault
		}
		_ = append(given, fault)
		checkMost(t, m, math.MaxInt, want[n:])
		checkNone(t, m)
	}
}

// R3: whoever hands the same list of sources to two mergers finds it as it was: New takes nothing out of it, and moves nothing.
func TestNewChangesNoList(t *testing.T) {
	asked := [3]int{}
	var all []source
	for i := range asked {
		all = append(all, func() (Item, bool) {
			asked[i]++
			return Item{Stamp: uint64(10 - i)}, asked[i] < 3
		})
	}
	New(false, all...).Most(99)
	for i := range all {
		was := asked
		all[i]()
		if was[i]++; asked != was {
			t.Fatalf("source %d isn't in its place: %v, not %v", i, asked, was)
		}
	}
}

// R3: what Most answers is new memory: whoever writes into it, or behind it, changes nothing that is answered later, nor what was answered before.
func TestMostIsNew(t *testing.T) {
	of := named([]uint64{1, 3, 5, 7, 9}, []uint64{2, 4, 6, 8})
	want := merged(false, of)
	for n := range len(want) + 1 {
		a, b := roomy(of[0]), roomy(of[1])
		m := New(false, Of(a), Of(b))
		first := m.Most(n)
		kept := slices.Clone(first)
		spoil(first)
		second := m.Most(2)
		if got := slices.Clone(second); !slices.Equal(append(kept, got...), want[:min(n+2, len(want))]) {
			t.Fatalf("%v and %v of %v", kept, got, want)
		}
		spoil(second)
		checkMost(t, m, math.MaxInt, want[min(n+2, len(want)):])
		if !slices.Equal(a, of[0]) || !slices.Equal(b, of[1]) {
			t.Fatal(a, b)
		}
	}
}

// R3: what a later call answers doesn't stand in what an earlier one did.
func TestMostStays(t *testing.T) {
	of := named([]uint64{1, 3, 5, 7, 9}, []uint64{2, 4, 6, 8})
	want := merged(false, of)
	m := New(false, sources(of)...)
	var told [][]Item
	for range 4 {
		told = append(told, m.Most(2))
	}
	m.Most(9)
	for i, l := range told {
		if !slices.Equal(l, want[2*i:2*i+2]) {
			t.Errorf("what was told as number %d is %v, not %v", i, l, want[2*i:2*i+2])
		}
	}
}

// R3: functions are shared: of a source that two mergers are handed each item is told once.
func TestSharedSource(t *testing.T) {
	l := named([]uint64{1, 2, 3, 4, 5, 6})[0]
	s := Of(l)
	a, b := New(false, s), New(false, s)
	var got []Item
	for range 3 {
		got = append(append(got, a.Most(1)...), b.Most(1)...)
	}
	got = append(append(got, a.Most(9)...), b.Most(9)...)
	if !slices.Equal(got, l) {
		t.Errorf("%v of %v", got, l)
	}
	// One that is handed in twice is asked at both its places.
	checkMost(t, New(false, Of(nil), Of(l), Of(nil)), 9, l)
	s = Of(l)
	checkMost(t, New(false, s, s), 9, l)
}
