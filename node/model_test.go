package node

import (
	"bytes"
	"encoding/binary"
	"math"
	"math/rand"
	"slices"
	"testing"

	"cashbook/api"
)

// The lengths that keys and values may have, at most.
const (
	mostKey   = 24
	mostValue = 108
)

// mayNotBe are lengths of keys and values of which one may not be.
func mayNotBe() [][2]int {
	all := [][2]int{{0, 0}, {-1, -1}, {-1, 1}, {1, -1}, {mostKey + 1, mostValue + 1}, {-8, 9}, {-4, 16}, {-4, 8}, {8, -7}, {249, 249}, {math.MaxInt, math.MaxInt}, {math.MinInt, math.MinInt}, {math.MaxInt, math.MinInt}, {math.MinInt, math.MaxInt}}
	for _, v := range []int{0, 1, 8, mostValue} {
		for _, k := range []int{math.MinInt, math.MinInt + 1, -1 << 32, -500, -4, -3, -2, -1, 0, mostKey + 1, mostKey + 2, 498, 499, 500, 1 << 16, 1 << 32, 1<<32 + 1, math.MaxInt - 1, math.MaxInt} {
			all = append(all, [2]int{k, v})
		}
	}
	for _, k := range []int{1, 16, mostKey} {
		for _, v := range []int{math.MinInt, math.MinInt + 1, -1 << 32, -mostKey, -16, -2, -1, mostValue + 1, mostValue + 2, 500, 1 << 32, 1<<32 + 1, math.MaxInt - 1, math.MaxInt} {
			all = append(all, [2]int{k, v})
		}
	}
	return all
}

// lengths are lengths of keys and values at their edges, and those that trees have.
func lengths() [][2]int {
	return [][2]int{{1, 0}, {1, 1}, {1, 8}, {1, mostValue}, {2, 0}, {2, 1}, {3, 7}, {8, 8}, {16, 88}, {16, mostValue}, {16, 1}, {16, 16}, {24, 16}, {24, 65}, {mostKey, 0}, {mostKey, mostValue}}
}

// capsByWords are the caps by the chapter's words: as many as there is room for in 500 bytes, one put behind the other.
func capsByWords(k, v int) (int, int) {
	if k < 1 || k > mostKey || v < 0 || v > mostValue {
		return 0, 0
	}
	keys, kids := 0, 0
	for 2+(keys+1)*(k+v) <= 500 {
		keys++
	}
	for 2+(kids+1)*4+kids*k <= 500 {
		kids++
	}
	return keys, kids
}

// rightByWords tells by the chapter's words whether a node is right.
func rightByWords(n api.Node, k, v int) bool {
	mostKeys, mostKids := capsByWords(k, v)
	for i, c := range n.Keys {
		if len(c) != k || i > 0 && bytes.Compare(n.Keys[i-1], c) != -1 {
			return false
		}
	}
	for _, c := range n.Values {
		if len(c) != v {
			return false
		}
	}
	for _, kid := range n.Kids {
		if kid == 0 || kid == 1 {
			return false
		}
	}
	keys, values, kids := len(n.Keys), len(n.Values), len(n.Kids)
	if n.Leaf {
		return keys > 0 && keys <= mostKeys && values == keys && kids == 0
	}
	return kids > 1 && kids <= mostKids && keys+1 == kids && values == 0
}

// told are the kind and the body of a node, right or not, which says that it has so many keys or kids, whatever it has.
func told(n api.Node, count int) (byte, []byte) {
	b := binary.BigEndian.AppendUint16(nil, uint16(count))
	for _, kid := range n.Kids {
		b = binary.BigEndian.AppendUint32(b, kid)
	}
	for i, c := range n.Keys {
		b = append(b, c...)
		if i < len(n.Values) {
			b = append(b, n.Values[i]...)
		}
	}
	if n.Leaf {
		return 3, b
	}
	return 4, b
}

// laid are the kind and the body of a node by the chapter's words.
func laid(n api.Node) (byte, []byte) {
	if n.Leaf {
		return told(n, len(n.Keys))
	}
	return told(n, len(n.Kids))
}

// readByWords is the node that a body is of, by the chapter's words, if there is one: each number of keys or kids is tried.
func readByWords(kind byte, b []byte, k, v int) (api.Node, bool) {
	mostKeys, mostKids := capsByWords(k, v)
	most := 0
	if kind == 3 {
		most = mostKeys
	}
	if kind == 4 {
		most = mostKids
	}
	for count := range most + 1 {
		if len(b) < 2 || binary.BigEndian.Uint16(b) != uint16(count) {
			continue
		}
		if kind == 3 && len(b) == 2+count*(k+v) {
			n := leafSaid(b[2:], count, k, v)
			return n, rightByWords(n, k, v)
		}
		if kind == 4 && len(b) == 2+count*4+(count-1)*k {
			n := innerSaid(b[2:], count, k)
			return n, rightByWords(n, k, v)
		}
	}
	return api.Node{}, false
}

// leafSaid is the leaf that bytes say, of so many keys.
func leafSaid(b []byte, count, k, v int) api.Node {
	n := api.Node{Leaf: true}
	for i := range count {
		at := i * (k + v)
		n.Keys = append(n.Keys, b[at:at+k])
		n.Values = append(n.Values, b[at+k:at+k+v])
	}
	return n
}

// innerSaid is the inner node that bytes say, of so many kids.
func innerSaid(b []byte, count, k int) api.Node {
	var n api.Node
	for i := range count {
		n.Kids = append(n.Kids, binary.BigEndian.Uint32(b[4*i:]))
	}
	for i := range count - 1 {
		at := 4*count + k*i
		n.Keys = append(n.Keys, b[at:at+k])
	}
	return n
}

// same tells whether two nodes have the same parts.
func same(a, b api.Node) bool {
	return a.Leaf == b.Leaf && slices.EqualFunc(a.Keys, b.Keys, bytes.Equal) && slices.EqualFunc(a.Values, b.Values, bytes.Equal) && slices.Equal(a.Kids, b.Kids)
}

// copied is the same node in memory of its own.
func copied(n api.Node) api.Node {
	c := api.Node{Leaf: n.Leaf, Kids: slices.Clone(n.Kids)}
	for _, b := range n.Keys {
		c.Keys = append(c.Keys, slices.Clone(b))
	}
	for _, b := range n.Values {
		c.Values = append(c.Values, slices.Clone(b))
	}
	return c
}

// keysOf are so many keys of k bytes, which rise, as long as there are so many of these.
func keysOf(count, k int) [][]byte {
	var all [][]byte
	for i := range count {
		b := bytes.Repeat([]byte{7}, k)
		if k > 1 {
			// The higher one of two bytes is of weight, too.
			i += 200
		}
		for j := range min(k, 4) {
			b[k-1-j] = byte(i >> (8 * j))
		}
		all = append(all, b)
	}
	return all
}

// valuesOf are so many values of v bytes.
func valuesOf(count, v int) [][]byte {
	var all [][]byte
	for i := range count {
		all = append(all, bytes.Repeat([]byte{byte(200 - i)}, v))
	}
	return all
}

// kidsOf are so many kids.
func kidsOf(count int) []uint32 {
	var all []uint32
	for i := range count {
		all = append(all, uint32(2+i*i*i*i*100))
	}
	return all
}

// leafOf is a right leaf of so many keys.
func leafOf(count, k, v int) api.Node {
	return api.Node{Leaf: true, Keys: keysOf(count, k), Values: valuesOf(count, v)}
}

// innerOf is a right inner node of so many kids.
func innerOf(count, k int) api.Node {
	return api.Node{Keys: keysOf(count-1, k), Kids: kidsOf(count)}
}

// mostKeysOf is how many keys a right leaf has at most: its cap, or 256, if a key of one byte is all there is.
func mostKeysOf(k, v int) int {
	keys, _ := capsByWords(k, v)
	if k == 1 {
		return min(keys, 256)
	}
	return keys
}

// rights are right nodes of few parts, of some, and of all that there may be.
func rights(k, v int) []api.Node {
	keys := mostKeysOf(k, v)
	_, kids := capsByWords(k, v)
	all := []api.Node{leafOf(1, k, v), leafOf(2, k, v), leafOf(3, k, v), leafOf((keys+1)/2, k, v), leafOf(keys-1, k, v), leafOf(keys, k, v)}
	return append(all, innerOf(2, k), innerOf(3, k), innerOf(4, k), innerOf((kids+1)/2, k), innerOf(kids-1, k), innerOf(kids, k))
}

// fault is a node that breaks one of the chapter's rules.
type fault struct {
	rule string
	node api.Node
}

// changed is a right node and what was changed of it.
func changed(rule string, n api.Node, change func(n *api.Node)) fault {
	n = copied(n)
	change(&n)
	return fault{rule, n}
}

// faultsOfLeaves are leaves that break one rule each.
func faultsOfLeaves(k, v int) []fault {
	right := leafOf(3, k, v)
	all := []fault{
		{"a leaf of nothing", api.Node{Leaf: true}},
		{"a leaf of empty lists", api.Node{Leaf: true, Keys: [][]byte{}, Values: [][]byte{}, Kids: []uint32{}}},
		changed("a value fewer", right, func(n *api.Node) { n.Values = n.Values[:2] }),
		changed("no values", right, func(n *api.Node) { n.Values = nil }),
		changed("a value more", right, func(n *api.Node) { n.Values = valuesOf(4, v) }),
		changed("a value alone", right, func(n *api.Node) { n.Keys, n.Values = nil, n.Values[:1] }),
		changed("a leaf of a kid", right, func(n *api.Node) { n.Kids = kidsOf(1) }),
		changed("a leaf of kids", right, func(n *api.Node) { n.Kids = kidsOf(4) }),
	}
	if mostKeys, _ := capsByWords(k, v); mostKeys < 256 || k > 1 {
		all = append(all, fault{"a key above the cap", leafOf(mostKeys+1, k, v)}, fault{"twice the cap", leafOf(min(256, 2*mostKeys), k, v)})
	}
	for i := range right.Values {
		all = append(all, changed("a value longer", right, func(n *api.Node) { n.Values[i] = append(n.Values[i], 0) }))
		if v > 0 {
			all = append(all, changed("a value shorter", right, func(n *api.Node) { n.Values[i] = n.Values[i][1:] }), changed("a value of nothing", right, func(n *api.Node) { n.Values[i] = nil }))
		}
	}
	all = append(all, changed("values longer and shorter", right, func(n *api.Node) { n.Values[0], n.Values[1] = make([]byte, v+1), make([]byte, max(0, v-1)) }))
	return append(all, faultsOfKeys(right, k)...)
}

// faultsOfInner are inner nodes that break one rule each.
func faultsOfInner(k, v int) []fault {
	right := innerOf(4, k)
	_, mostKids := capsByWords(k, v)
	all := []fault{
		{"an inner node of nothing", api.Node{}},
		{"an inner node of empty lists", api.Node{Keys: [][]byte{}, Values: [][]byte{}, Kids: []uint32{}}},
		{"no kids", api.Node{Keys: keysOf(1, k)}},
		{"one kid", api.Node{Kids: kidsOf(1)}},
		{"one kid and one key", api.Node{Keys: keysOf(1, k), Kids: kidsOf(1)}},
		{"a kid above the cap", innerOf(mostKids+1, k)},
		{"twice the cap", innerOf(2*mostKids, k)},
		changed("an inner node of values", right, func(n *api.Node) { n.Values = valuesOf(3, v) }),
		changed("an inner node of a value", right, func(n *api.Node) { n.Values = valuesOf(1, v) }),
		changed("as many keys as kids", right, func(n *api.Node) { n.Keys = keysOf(4, k) }),
		changed("two keys fewer", right, func(n *api.Node) { n.Keys = n.Keys[:2] }),
		changed("no keys", right, func(n *api.Node) { n.Keys = nil }),
		changed("a key more than kids", right, func(n *api.Node) { n.Keys = keysOf(5, k) }),
	}
	for i := range right.Kids {
		for kid := range uint32(2) {
			all = append(all, changed("a kid of 0 or 1", right, func(n *api.Node) { n.Kids[i] = kid }))
		}
	}
	return append(all, faultsOfKeys(right, k)...)
}

// faultsOfKeys are what a node of three keys is, if these break one rule.
func faultsOfKeys(right api.Node, k int) []fault {
	var all []fault
	for i := range 2 {
		all = append(all,
			changed("keys the same", right, func(n *api.Node) { n.Keys[i+1] = slices.Clone(n.Keys[i]) }),
			changed("keys that fall", right, func(n *api.Node) { n.Keys[i], n.Keys[i+1] = n.Keys[i+1], n.Keys[i] }))
	}
	all = append(all, changed("all keys the same", right, func(n *api.Node) { n.Keys[0], n.Keys[2] = n.Keys[1], n.Keys[1] }), changed("keys that fall at last alone", right, func(n *api.Node) { n.Keys[2] = bytes.Repeat([]byte{0}, k) }))
	for i := range 3 {
		all = append(all, changed("a key longer", right, func(n *api.Node) { n.Keys[i] = append(n.Keys[i], 0) }))
	}
	// A key shorter than the others rises still, if what is left isn't what the one ahead has.
	all = append(all,
		changed("the first key shorter", right, func(n *api.Node) { n.Keys[0] = n.Keys[0][:k-1] }),
		changed("the last key shorter", right, func(n *api.Node) { n.Keys[2] = bytes.Repeat([]byte{255}, k-1) }),
		changed("a key of nothing", right, func(n *api.Node) { n.Keys[0] = nil }))
	return append(all, changed("keys shorter and longer", right, func(n *api.Node) { n.Keys[0], n.Keys[1] = n.Keys[0][:k-1], append(n.Keys[1], 0) }))
}

// faults are nodes that break one rule each.
func faults(k, v int) []fault { return append(faultsOfLeaves(k, v), faultsOfInner(k, v)...) }

// checkNode asks of any node whether it is right, and for its body: the answers are those by the chapter's words.
func checkNode(t testing.TB, n api.Node, k, v int) bool {
	t.Helper()
	right := rightByWords(n, k, v)
	if Right(n, k, v) != right {
		t.Errorf("of %d and %d: Right of %v is %t", k, v, n, !right)
	}
	wantKind, want := byte(0), []byte(nil)
	wantErr := api.ErrArg
	if right {
		wantKind, want = laid(n)
		wantErr = api.OK
	}
	kind, body, err := Write(n, k, v)
	if kind != wantKind || !bytes.Equal(body, want) || err != wantErr {
		t.Errorf("of %d and %d: Write of %v answers %d, %v and %d, not %d, %v and %d", k, v, n, kind, body, err, wantKind, want, wantErr)
	}
	if right {
		checkRead(t, kind, body, k, v, n)
	}
	return right
}

// checkRead reads the body of a right node, which is written as the same again.
func checkRead(t testing.TB, kind byte, body []byte, k, v int, want api.Node) {
	t.Helper()
	n, err := Read(kind, body, k, v)
	if err != api.OK || !same(n, want) {
		t.Fatalf("of %d and %d: Read of %d and %v answers %v and %d, not %v", k, v, kind, body, n, err, want)
	}
	againKind, again, err := Write(n, k, v)
	if err != api.OK || againKind != kind || !bytes.Equal(again, body) {
		t.Errorf("of %d and %d: what is read of %d and %v is written as %d and %v, and %d", k, v, kind, body, againKind, again, err)
	}
}

// checkNoRead reads what is no right node's body: an error alone.
func checkNoRead(t testing.TB, kind byte, body []byte, k, v int) {
	t.Helper()
	n, err := Read(kind, body, k, v)
	if err != api.ErrForm || n.Leaf || len(n.Keys)+len(n.Values)+len(n.Kids) > 0 {
		t.Errorf("of %d and %d: Read of %d and %v answers %v and %d, not %d alone", k, v, kind, body, n, err, api.ErrForm)
	}
}

// checkBody reads any bytes: the answer is the one by the chapter's words.
func checkBody(t testing.TB, kind byte, body []byte, k, v int) bool {
	t.Helper()
	want, right := readByWords(kind, body, k, v)
	if right {
		checkRead(t, kind, body, k, v, want)
	} else {
		checkNoRead(t, kind, body, k, v)
	}
	return right
}

// randomRow is a row of so many bytes, of which many are the same.
func randomRow(source *rand.Rand, length int) []byte {
	b := make([]byte, length)
	for i := range b {
		b[i] = []byte{0, 1, 127, 128, 255, byte(source.Intn(256))}[source.Intn(6)]
	}
	return b
}

// randomKeys are as many keys of k bytes as there are among so many rows, rising.
func randomKeys(source *rand.Rand, count, k int) [][]byte {
	var all [][]byte
	for range count {
		all = append(all, randomRow(source, k))
	}
	slices.SortFunc(all, bytes.Compare)
	return slices.CompactFunc(all, bytes.Equal)
}

// randomNode is a right node.
func randomNode(source *rand.Rand, k, v int) api.Node {
	mostKeys, mostKids := capsByWords(k, v)
	if source.Intn(2) == 0 {
		n := api.Node{Leaf: true, Keys: randomKeys(source, 1+source.Intn(mostKeys), k)}
		for range n.Keys {
			n.Values = append(n.Values, randomRow(source, v))
		}
		return n
	}
	n := api.Node{Keys: randomKeys(source, 1+source.Intn(mostKids-1), k), Kids: []uint32{2}}
	for range n.Keys {
		n.Kids = append(n.Kids, 2+uint32(source.Int63n(math.MaxUint32-1)))
	}
	return n
}
