package node

import (
	"bytes"
	"math"
	"math/rand"
	"testing"

	"cashbook/api"
)

// checkCaps holds the caps against what they should be.
func checkCaps(t testing.TB, k, v, keys, kids int) {
	t.Helper()
	if a, b := Caps(k, v); a != keys || b != kids {
		t.Errorf("Caps(%d, %d) are %d and %d, not %d and %d", k, v, a, b, keys, kids)
	}
}

// P11.1: the chapter's examples.
func TestExamples(t *testing.T) {
	checkCaps(t, 16, 88, 4, 25)
	n := api.Node{Leaf: true, Keys: [][]byte{{1}, {2}}, Values: [][]byte{{7}, {8}}}
	if !Right(n, 1, 1) {
		t.Error("the leaf isn't right")
	}
	kind, body, err := Write(n, 1, 1)
	if kind != api.KindLeaf || !bytes.Equal(body, []byte{0, 2, 1, 7, 2, 8}) || err != api.OK {
		t.Error(kind, body, err)
	}
	checkRead(t, api.KindLeaf, []byte{0, 2, 1, 7, 2, 8}, 1, 1, n)
}

// P11.1: the caps of trees' nodes, and at the edges of k and v.
func TestCaps(t *testing.T) {
	for _, c := range [][4]int{
		{1, 0, 498, 99}, {1, 1, 249, 99}, {1, 8, 55, 99}, {1, 108, 4, 99},
		{2, 0, 249, 83}, {2, 1, 166, 83}, {3, 0, 166, 71}, {4, 0, 124, 62},
		{8, 8, 31, 42}, {16, 0, 31, 25}, {16, 1, 29, 25}, {16, 16, 15, 25}, {16, 88, 4, 25}, {16, 108, 4, 25},
		{23, 0, 21, 19}, {24, 0, 20, 18}, {24, 1, 19, 18}, {24, 16, 12, 18}, {24, 65, 5, 18}, {24, 107, 3, 18}, {24, 108, 3, 18},
		{-1, 0, 0, 0}, {0, 0, 0, 0}, {0, 1, 0, 0}, {0, 108, 0, 0}, {25, 0, 0, 0}, {25, 1, 0, 0}, {25, 108, 0, 0},
		{1, -1, 0, 0}, {2, -1, 0, 0}, {24, -1, 0, 0}, {24, -24, 0, 0}, {1, 109, 0, 0}, {24, 109, 0, 0}, {-1, -1, 0, 0}, {25, 109, 0, 0},
	} {
		checkCaps(t, c[0], c[1], c[2], c[3])
	}
}

// P11.1: the caps of all k and v that may be, and of those about them: as many as there is room for, and no more.
func TestAllCaps(t *testing.T) {
	for k := -30; k <= 60; k++ {
		for v := -30; v <= 150; v++ {
			keys, kids := capsByWords(k, v)
			checkCaps(t, k, v, keys, kids)
			if may := k >= 1 && k <= 24 && v >= 0 && v <= 108; may != (keys >= 3) || may != (kids >= 18) {
				t.Errorf("of %d and %d the words tell %d and %d", k, v, keys, kids)
			}
		}
	}
}

// R1: numbers at which something might go round, or be divided by 0.
func TestCapsOfGreat(t *testing.T) {
	great := []int{math.MinInt, math.MinInt + 1, math.MinInt + 24, -1 << 62, -1 << 32, -1<<32 + 16, -1 << 31, -1 << 16, -1<<16 + 1, -512, -500, -498, -256 + 1, -108, -24, -5, -4, -3, -2, -1, 0, 1, 4, 16, 24, 88, 108, 256 + 1, 498, 500, 512, 1<<16 + 1, 1 << 31, 1 << 32, 1<<32 + 16, 1 << 62, math.MaxInt - 498, math.MaxInt - 4, math.MaxInt - 1, math.MaxInt}
	for _, k := range great {
		for _, v := range great {
			keys, kids := capsByWords(k, v)
			checkCaps(t, k, v, keys, kids)
		}
	}
	for _, w := range mayNotBe() {
		checkCaps(t, w[0], w[1], 0, 0)
	}
}

// P11.1: nodes that are right, from the fewest parts to the cap; but for lengths that aren't theirs.
func TestRight(t *testing.T) {
	for _, w := range lengths() {
		for _, n := range rights(w[0], w[1]) {
			if !rightByWords(n, w[0], w[1]) {
				t.Fatalf("%v isn't right for %v by the chapter's words", n, w)
			}
			checkNode(t, n, w[0], w[1])
			for _, other := range append(lengths(), mayNotBe()...) {
				checkNode(t, n, other[0], other[1])
			}
		}
	}
}

// P11.1: an inner node of any number of kids, a leaf of any number of keys: it is right up to the cap, and no further.
func TestAllCounts(t *testing.T) {
	for _, w := range lengths() {
		mostKeys, mostKids := capsByWords(w[0], w[1])
		for count := range 257 {
			if right := checkNode(t, leafOf(count, w[0], w[1]), w[0], w[1]); right != (count >= 1 && count <= mostKeys) {
				t.Errorf("of %v: %t by the words, of a leaf of %d", w, right, count)
			}
			if right := count > 0 && checkNode(t, innerOf(count, w[0]), w[0], w[1]); right != (count >= 2 && count <= mostKids) {
				t.Errorf("of %v: %t by the words, of an inner node of %d", w, right, count)
			}
		}
	}
}

// P11.1: nodes that break one rule each: Right says so, and Write answers an error alone.
func TestFaults(t *testing.T) {
	for _, w := range lengths() {
		for _, f := range faults(w[0], w[1]) {
			if Right(f.node, w[0], w[1]) || rightByWords(f.node, w[0], w[1]) {
				t.Errorf("of %v: %s: it is right", w, f.rule)
			}
			checkNode(t, f.node, w[0], w[1])
			// What breaks a rule of one sort may be right as the other.
			f.node.Leaf = !f.node.Leaf
			checkNode(t, f.node, w[0], w[1])
		}
	}
}

// P11.1: the chapter's rules, each of which is broken alone, written out.
func TestEachRule(t *testing.T) {
	leaf := func(keys, values [][]byte, kids ...uint32) api.Node {
		return api.Node{Leaf: true, Keys: keys, Values: values, Kids: kids}
	}
	inner := func(keys, values [][]byte, kids ...uint32) api.Node {
		return api.Node{Keys: keys, Values: values, Kids: kids}
	}
	two, values := [][]byte{{3, 4}, {3, 5}}, [][]byte{{9}, {8}}
	for _, c := range []struct {
		what string
		node api.Node
		want bool
	}{
		{"a leaf", leaf(two, values), true},
		{"no key", leaf(nil, nil), false},
		{"one key", leaf(two[:1], values[:1]), true},
		{"a value fewer", leaf(two, values[:1]), false},
		{"a value more", leaf(two[:1], values), false},
		{"a kid", leaf(two, values, 2), false},
		{"an inner node", inner(two, nil, 2, 3, 4), true},
		{"kids that are the same, and fall", inner(two, nil, 4, 4, 2), true},
		{"the greatest kids", inner(two, nil, math.MaxUint32, 1<<31, 256), true},
		{"two kids", inner(two[:1], nil, 2, 3), true},
		{"no kid", inner(nil, nil), false},
		{"one kid", inner(nil, nil, 2), false},
		{"values", inner(two, values, 2, 3, 4), false},
		{"as many keys as kids", inner(two, nil, 2, 3), false},
		{"two keys fewer than kids", inner(two, nil, 2, 3, 4, 5), false},
		{"a kid of 0, the first", inner(two, nil, 0, 3, 4), false},
		{"a kid of 1, between", inner(two, nil, 2, 1, 4), false},
		{"a kid of 0, the last", inner(two, nil, 2, 3, 0), false},
		{"the same keys", leaf([][]byte{{3, 4}, {3, 4}}, values), false},
		{"keys that fall", leaf([][]byte{{3, 4}, {3, 3}}, values), false},
		{"keys that fall at the first byte", leaf([][]byte{{4, 0}, {3, 9}}, values), false},
		{"keys that rise, the highest bytes too", leaf([][]byte{{127, 255}, {128, 0}}, values), true},
		{"the same keys of an inner node", inner([][]byte{{3, 4}, {3, 4}}, nil, 2, 3, 4), false},
		{"a key shorter", leaf([][]byte{{3}, {3, 5}}, values), false},
		{"a key longer", leaf([][]byte{{3, 4, 0}, {3, 5}}, values), false},
		{"a value shorter", leaf(two, [][]byte{{9}, {}}), false},
		{"a value longer", leaf(two, [][]byte{{9, 0}, {8}}), false},
	} {
		if Right(c.node, 2, 1) != c.want {
			t.Errorf("%s: %t", c.what, !c.want)
		}
		checkNode(t, c.node, 2, 1)
	}
}

// P11.1: one more than the caps of each tree, which has what else a right node has.
func TestAboveCaps(t *testing.T) {
	for _, c := range []struct{ k, v, keys, kids int }{{16, 88, 4, 25}, {16, 108, 4, 25}, {16, 1, 29, 25}, {16, 16, 15, 25}, {24, 16, 12, 18}, {24, 65, 5, 18}, {1, 8, 55, 99}} {
		if !Right(leafOf(c.keys, c.k, c.v), c.k, c.v) || Right(leafOf(c.keys+1, c.k, c.v), c.k, c.v) {
			t.Errorf("of %d and %d: a leaf's cap isn't %d", c.k, c.v, c.keys)
		}
		if !Right(innerOf(c.kids, c.k), c.k, c.v) || Right(innerOf(c.kids+1, c.k), c.k, c.v) {
			t.Errorf("of %d and %d: an inner node's cap isn't %d", c.k, c.v, c.kids)
		}
	}
	// Keys of one byte without values: as many as there are rise, more can't, though there is room for them.
	checkNode(t, leafOf(256, 1, 0), 1, 0)
	if !Right(leafOf(256, 1, 0), 1, 0) || Right(leafOf(257, 1, 0), 1, 0) {
		t.Error("256 keys of one byte are right, 257 aren't")
	}
}

// P11.1: k and v that may not be: no node is right, not even one whose keys and values have such lengths.
func TestLengthsThatMayNotBe(t *testing.T) {
	for _, w := range mayNotBe() {
		for _, n := range append(rights(1, 1), rights(24, 108)...) {
			checkNode(t, n, w[0], w[1])
		}
		checkNode(t, api.Node{}, w[0], w[1])
		checkNode(t, api.Node{Leaf: true}, w[0], w[1])
	}
	nothing := [][]byte{{}}
	for _, c := range []struct {
		node api.Node
		k, v int
	}{
		{api.Node{Leaf: true, Keys: nothing, Values: nothing}, 0, 0},
		{api.Node{Leaf: true, Keys: nothing, Values: [][]byte{{1}}}, 0, 1},
		{api.Node{Keys: nothing, Kids: []uint32{2, 3}}, 0, 0},
		{leafOf(1, 25, 1), 25, 1},
		{leafOf(1, 24, 109), 24, 109},
		{leafOf(1, 1, 109), 1, 109},
		{innerOf(2, 25), 25, 1},
		{innerOf(2, 24), 24, 109},
		{innerOf(2, 24), 24, -1},
		{api.Node{Leaf: true, Keys: keysOf(1, 24), Values: [][]byte{nil}}, 24, -1},
	} {
		if checkNode(t, c.node, c.k, c.v) {
			t.Errorf("%v is right for %d and %d by the words", c.node, c.k, c.v)
		}
	}
}

// R4: no list is the same as an empty one.
func TestNoListsAreEmptyOnes(t *testing.T) {
	for _, n := range []api.Node{
		{Leaf: true, Keys: keysOf(2, 3), Values: [][]byte{nil, {}}},
		{Leaf: true, Keys: keysOf(2, 3), Values: [][]byte{{}, nil}, Kids: []uint32{}},
		{Keys: keysOf(1, 3), Kids: kidsOf(2)},
		{Keys: keysOf(1, 3), Values: [][]byte{}, Kids: kidsOf(2)},
	} {
		if !checkNode(t, n, 3, 0) {
			t.Errorf("%v isn't right by the words", n)
		}
	}
}

// R1 and P11.1: nodes of many parts, and of long ones.
func TestGreatNodes(t *testing.T) {
	many := make([][]byte, 100000)
	for _, w := range append(lengths(), mayNotBe()...) {
		checkNode(t, api.Node{Leaf: true, Keys: many, Values: many}, w[0], w[1])
		checkNode(t, api.Node{Keys: many, Kids: make([]uint32, 100001)}, w[0], w[1])
	}
	long := [][]byte{make([]byte, 100000)}
	checkNode(t, api.Node{Leaf: true, Keys: long, Values: long}, 24, 108)
	checkNode(t, api.Node{Leaf: true, Keys: long, Values: long}, 100000, 100000)
	checkNode(t, innerOf(1000, 24), 24, 108)
	// More than two bytes tell: what these told of it would be a right number.
	checkNode(t, leafOf(1<<16+3, 4, 1), 4, 1)
	checkNode(t, api.Node{Keys: keysOf(1<<16+2, 4), Kids: rowOf(1<<16+3, uint32(7))}, 4, 1)
}

// rowOf is a row of one thing, so often.
func rowOf[T any](count int, one T) []T {
	all := make([]T, count)
	for i := range all {
		all[i] = one
	}
	return all
}

// P11.1: random nodes, of which many are right but for one thing.
func TestRandomRight(t *testing.T) {
	source := rand.New(rand.NewSource(111))
	so := map[bool]int{}
	for range 20000 {
		k, v := 1+source.Intn(24), source.Intn(109)
		n := randomNode(source, k, v)
		if source.Intn(2) == 0 {
			spoilt(source, &n)
		}
		so[checkNode(t, n, k, v)]++
	}
	if so[true] < 8000 || so[false] < 5000 {
		t.Errorf("right and wrong so often: %v", so)
	}
}

// spoilt is a node of which one thing was changed, mostly so that it isn't right any more.
func spoilt(source *rand.Rand, n *api.Node) {
	i := source.Intn(len(n.Keys))
	switch source.Intn(8) {
	case 0:
		n.Leaf = !n.Leaf
	case 1:
		n.Keys[i] = n.Keys[source.Intn(len(n.Keys))]
	case 2:
		n.Keys[i] = n.Keys[i][:source.Intn(len(n.Keys[i]))]
	case 3:
		n.Keys[i] = append(n.Keys[i], 0)
	case 4:
		n.Values = append(n.Values, nil)
	case 5:
		n.Kids = append(n.Kids, uint32(source.Intn(4)))
	case 6:
		n.Keys = n.Keys[:i]
	case 7:
		n.Keys[i][source.Intn(len(n.Keys[i]))] ^= 1 << source.Intn(8)
	}
}
