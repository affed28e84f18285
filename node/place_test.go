package node

import (
	"bytes"
	"math/rand"
	"slices"
	"testing"

	"cashbook/api"
)

// checkPlace holds where a key stands, and which kid has it, against the chapter's words: each key is asked.
func checkPlace(t testing.TB, n api.Node, key []byte) {
	t.Helper()
	ahead, notBehind := 0, 0
	is := false
	for _, k := range n.Keys {
		switch bytes.Compare(k, key) {
		case -1:
			ahead++
			notBehind++
		case 0:
			is = true
			notBehind++
		}
	}
	checkPlaceIs(t, n, key, ahead, is, notBehind)
}

// checkPlaceIs holds where a key stands, and which kid has it, against what they should be.
func checkPlaceIs(t testing.TB, n api.Node, key []byte, place int, is bool, kid int) {
	t.Helper()
	if got, ok := Place(n, key); got != place || ok != is {
		t.Errorf("Place of %v in %v is %d, %t, not %d, %t", key, n.Keys, got, ok, place, is)
	}
	if got := Kid(n, key); got != kid {
		t.Errorf("Kid of %v in %v is %d, not %d", key, n.Keys, got, kid)
	}
}

// about are a row, and rows beside it: shorter and longer ones, and such as have one byte that is less or more.
func about(b []byte) [][]byte {
	all := [][]byte{b, append(slices.Clone(b), 0), append(slices.Clone(b), 255)}
	for i := range b {
		less, more := slices.Clone(b), slices.Clone(b)
		less[i]--
		more[i]++
		all = append(all, b[:i], less, more)
	}
	return all
}

// P11.1: keys ahead of all, behind all, between, and the same; shorter and longer ones, and none.
func TestPlaces(t *testing.T) {
	keys := [][]byte{{3, 4}, {5, 0}, {5, 9}}
	for _, n := range []api.Node{{Leaf: true, Keys: keys, Values: valuesOf(3, 1)}, {Keys: keys, Kids: []uint32{2, 3, 4, 5}}, {Keys: keys}} {
		for _, c := range []struct {
			key   []byte
			place int
			is    bool
			kid   int
		}{
			{nil, 0, false, 0},
			{[]byte{}, 0, false, 0},
			{[]byte{0}, 0, false, 0},
			{[]byte{3}, 0, false, 0},
			{[]byte{3, 3}, 0, false, 0},
			{[]byte{3, 3, 255}, 0, false, 0},
			{[]byte{3, 4}, 0, true, 1},
			{[]byte{3, 4, 0}, 1, false, 1},
			{[]byte{3, 5}, 1, false, 1},
			{[]byte{5}, 1, false, 1},
			{[]byte{5, 0}, 1, true, 2},
			{[]byte{5, 0, 0, 0}, 2, false, 2},
			{[]byte{5, 8}, 2, false, 2},
			{[]byte{5, 9}, 2, true, 3},
			{[]byte{5, 9, 0}, 3, false, 3},
			{[]byte{5, 10}, 3, false, 3},
			{[]byte{6}, 3, false, 3},
			{[]byte{255, 255}, 3, false, 3},
			{bytes.Repeat([]byte{255}, 1000), 3, false, 3},
		} {
			checkPlaceIs(t, n, c.key, c.place, c.is, c.kid)
		}
	}
}

// P11.1: in nodes of no key nothing stands ahead, and nothing is the same; in those of one key.
func TestPlacesInFew(t *testing.T) {
	for _, n := range []api.Node{{}, {Leaf: true}, {Leaf: true, Keys: [][]byte{}}, {Kids: []uint32{2}}, {Leaf: true, Values: [][]byte{{1}}}} {
		for _, key := range [][]byte{nil, {}, {0}, {1, 2, 3}, bytes.Repeat([]byte{255}, 30)} {
			checkPlaceIs(t, n, key, 0, false, 0)
		}
	}
	for _, n := range []api.Node{leafOf(1, 2, 1), innerOf(2, 2)} {
		n.Keys = [][]byte{{7, 7}}
		checkPlaceIs(t, n, nil, 0, false, 0)
		checkPlaceIs(t, n, []byte{7}, 0, false, 0)
		checkPlaceIs(t, n, []byte{7, 6}, 0, false, 0)
		checkPlaceIs(t, n, []byte{7, 7}, 0, true, 1)
		checkPlaceIs(t, n, []byte{7, 7, 0}, 1, false, 1)
		checkPlaceIs(t, n, []byte{8}, 1, false, 1)
	}
	// A key of no bytes rises, too, if it is the first one.
	n := api.Node{Leaf: true, Keys: [][]byte{nil, {0}}}
	checkPlaceIs(t, n, nil, 0, true, 1)
	checkPlaceIs(t, n, []byte{}, 0, true, 1)
	checkPlaceIs(t, n, []byte{0}, 1, true, 2)
	checkPlaceIs(t, n, []byte{0, 0}, 2, false, 2)
}

// P11.1: nodes of each number of keys, and every key of them, and what stands beside it.
func TestPlacesInMany(t *testing.T) {
	for _, k := range []int{1, 2, 16, 24} {
		for count := range 130 {
			for _, n := range []api.Node{leafOf(count, k, 3), innerOf(count+1, k)} {
				checkPlace(t, n, nil)
				checkPlace(t, n, bytes.Repeat([]byte{255}, k))
				for _, key := range n.Keys {
					checkPlace(t, n, key)
				}
				for i := 0; i < len(n.Keys); i += 1 + count/4 {
					for _, key := range about(n.Keys[i]) {
						checkPlace(t, n, key)
					}
				}
			}
		}
	}
}

// P11.1: the kid that has a key, by the words: its keys aren't ahead of the key ahead of it, and are ahead of the next one.
func TestKidHasKey(t *testing.T) {
	source := rand.New(rand.NewSource(114))
	for range 3000 {
		k := 1 + source.Intn(24)
		n := randomNode(source, k, 1)
		key := randomRow(source, k)
		if source.Intn(2) == 0 {
			key = n.Keys[source.Intn(len(n.Keys))]
		}
		kid := Kid(n, key)
		if kid < 0 || kid > len(n.Keys) {
			t.Fatalf("Kid of %v in %v is %d", key, n.Keys, kid)
		}
		if kid > 0 && bytes.Compare(key, n.Keys[kid-1]) < 0 || kid < len(n.Keys) && bytes.Compare(key, n.Keys[kid]) >= 0 {
			t.Errorf("Kid of %v in %v is %d", key, n.Keys, kid)
		}
		checkPlace(t, n, key)
	}
}

// P11.1: keys that rise but have lengths of their own: of any node whose keys rise the places are told.
func TestPlacesOfAnyLengths(t *testing.T) {
	source := rand.New(rand.NewSource(115))
	for range 2000 {
		n := api.Node{Leaf: source.Intn(2) == 0, Kids: kidsOf(source.Intn(3))}
		for range source.Intn(40) {
			n.Keys = append(n.Keys, randomRow(source, source.Intn(5)))
		}
		slices.SortFunc(n.Keys, bytes.Compare)
		n.Keys = slices.CompactFunc(n.Keys, bytes.Equal)
		for range 10 {
			checkPlace(t, n, randomRow(source, source.Intn(6)))
		}
	}
}

// checkInside asks nodes whose keys may stand in any order: the answers are numbers from 0 to how many there are.
func checkInside(t testing.TB, n api.Node, key []byte) {
	t.Helper()
	place, _ := Place(n, key)
	kid := Kid(n, key)
	if place < 0 || place > len(n.Keys) || kid < 0 || kid > len(n.Keys) {
		t.Errorf("Place and Kid of %v in %v are %d and %d", key, n.Keys, place, kid)
	}
}

// P11.1: nodes whose keys don't rise: any number from 0 to how many keys there are, and no crash.
func TestPlacesInWrong(t *testing.T) {
	for _, w := range lengths() {
		for _, f := range faults(w[0], w[1]) {
			for _, key := range append(slices.Clone(f.node.Keys), nil, []byte{0}, bytes.Repeat([]byte{255}, 30)) {
				checkInside(t, f.node, key)
			}
		}
	}
	source := rand.New(rand.NewSource(116))
	for range 3000 {
		n := api.Node{Leaf: source.Intn(2) == 0}
		for range source.Intn(30) {
			n.Keys = append(n.Keys, randomRow(source, source.Intn(3)))
		}
		for range 5 {
			checkInside(t, n, randomRow(source, source.Intn(3)))
		}
	}
	same := api.Node{Leaf: true, Keys: rowOf(1000, []byte{5})}
	for key := range byte(10) {
		checkInside(t, same, []byte{key})
	}
}

// P11.1, of any keys.
func FuzzPlace(f *testing.F) {
	f.Add([]byte{1, 2, 3}, []byte{2}, 1, true)
	f.Add([]byte{3, 2, 1, 0}, []byte{2, 1}, 2, false)
	f.Add([]byte(nil), []byte(nil), 0, true)
	f.Fuzz(func(t *testing.T, b, key []byte, k int, leaf bool) {
		n := api.Node{Leaf: leaf}
		for len(b) > 0 {
			length := min(len(b), 1+int(uint(k)%24))
			n.Keys = append(n.Keys, b[:length])
			b = b[length:]
		}
		checkInside(t, n, key)
		slices.SortFunc(n.Keys, bytes.Compare)
		n.Keys = slices.CompactFunc(n.Keys, bytes.Equal)
		checkPlace(t, n, key)
		for _, k := range n.Keys {
			checkPlace(t, n, k)
		}
	})
}
