package node

import (
	"bytes"
	"math"
	"math/rand"
	"slices"
	"testing"

	"cashbook/api"
)

// P11.1: which part stands where, the highest byte first.
func TestParts(t *testing.T) {
	leaf := api.Node{Leaf: true, Keys: [][]byte{{1, 2}, {3, 4}, {5, 6}}, Values: [][]byte{{7, 8, 9}, {10, 11, 12}, {13, 14, 15}}}
	inner := api.Node{Keys: [][]byte{{1, 2}, {3, 4}}, Kids: []uint32{0x0a0b0c0d, 2, 0x01020304}}
	for _, c := range []struct {
		node api.Node
		v    int
		kind byte
		want []byte
	}{
		{leaf, 3, 3, []byte{0, 3, 1, 2, 7, 8, 9, 3, 4, 10, 11, 12, 5, 6, 13, 14, 15}},
		{inner, 3, 4, []byte{0, 3, 10, 11, 12, 13, 0, 0, 0, 2, 1, 2, 3, 4, 1, 2, 3, 4}},
		{inner, 0, 4, []byte{0, 3, 10, 11, 12, 13, 0, 0, 0, 2, 1, 2, 3, 4, 1, 2, 3, 4}},
		{api.Node{Leaf: true, Keys: [][]byte{{1, 2}}, Values: [][]byte{nil}}, 0, 3, []byte{0, 1, 1, 2}},
		{api.Node{Keys: [][]byte{{1, 2}}, Kids: []uint32{300, math.MaxUint32}}, 0, 4, []byte{0, 2, 0, 0, 1, 44, 255, 255, 255, 255, 1, 2}},
	} {
		kind, body, err := Write(c.node, 2, c.v)
		if kind != c.kind || !bytes.Equal(body, c.want) || err != api.OK {
			t.Errorf("%v is written as %d and %v, and %d", c.node, kind, body, err)
		}
		checkRead(t, c.kind, c.want, 2, c.v, c.node)
		checkNoRead(t, 7-c.kind, c.want, 2, c.v)
	}
}

// P11.1: numbers of keys about the one that takes the higher byte, too.
func TestHighByte(t *testing.T) {
	n := leafOf(256, 1, 0)
	_, body, err := Write(n, 1, 0)
	if err != api.OK || len(body) != 258 || body[0] != 1 || body[1] != 0 {
		t.Errorf("256 keys: %d bytes, and %d", len(body), err)
	}
	checkRead(t, 3, body, 1, 0, n)
	checkNoRead(t, 3, append([]byte{0, 0}, body[2:]...), 1, 0)
	checkNoRead(t, 3, append([]byte{0, 255}, body[2:]...), 1, 0)
	checkNoRead(t, 3, append([]byte{1, 1}, body[2:]...), 1, 0)
	_, body, err = Write(leafOf(255, 1, 0), 1, 0)
	if err != api.OK || len(body) != 257 || body[0] != 0 || body[1] != 255 {
		t.Errorf("255 keys: %d bytes, and %d", len(body), err)
	}
	checkRead(t, 3, body, 1, 0, leafOf(255, 1, 0))
	// Of two bytes there are more keys than there is room for.
	checkNode(t, leafOf(249, 2, 0), 2, 0)
	checkNode(t, leafOf(250, 2, 0), 2, 0)
	checkNode(t, leafOf(256, 2, 0), 2, 0)
}

// P11.1: nodes that are right, read and written, have no more bytes than a page has room for.
func TestBodiesHaveRoom(t *testing.T) {
	for k := 1; k <= 24; k++ {
		for v := range 109 {
			keys, kids := capsByWords(k, v)
			for _, n := range []api.Node{leafOf(mostKeysOf(k, v), k, v), innerOf(kids, k)} {
				_, body, err := Write(n, k, v)
				if err != api.OK || len(body) > api.MaxBody {
					t.Errorf("of %d and %d: %d bytes, and %d", k, v, len(body), err)
				}
				checkNode(t, n, k, v)
			}
			if k > 1 || keys < 256 {
				checkNode(t, leafOf(keys+1, k, v), k, v)
			}
			checkNode(t, innerOf(kids+1, k), k, v)
		}
	}
}

// P11.1: what is no body: every other kind, none, one byte, bytes cut off or put on, other numbers of keys and kids.
func TestBrokenBodies(t *testing.T) {
	for _, w := range lengths() {
		k, v := w[0], w[1]
		for _, n := range rights(k, v) {
			kind, body := laid(n)
			checkRead(t, kind, body, k, v, n)
			for other := range 256 {
				if byte(other) != kind {
					checkBody(t, byte(other), body, k, v)
				}
			}
			for cut := range body {
				checkNoRead(t, kind, body[:cut], k, v)
			}
			for _, more := range []int{1, 2, 4, k, v, k + v, k + 4, 500} {
				if more > 0 {
					checkNoRead(t, kind, append(slices.Clone(body), make([]byte, more)...), k, v)
				}
			}
			checkCountsOf(t, n, kind, body, k, v)
		}
		for kind := range 256 {
			checkNoRead(t, byte(kind), nil, k, v)
			checkNoRead(t, byte(kind), []byte{}, k, v)
			for _, c := range []byte{0, 1, 2, 255} {
				checkNoRead(t, byte(kind), []byte{c}, k, v)
				checkNoRead(t, byte(kind), []byte{0, c}, k, v)
				checkNoRead(t, byte(kind), []byte{c, 0}, k, v)
			}
		}
	}
}

// checkCountsOf reads a node's body which says each other number of keys, or kids.
func checkCountsOf(t testing.TB, n api.Node, kind byte, body []byte, k, v int) {
	t.Helper()
	mostKeys, mostKids := capsByWords(k, v)
	is := len(n.Keys)
	if !n.Leaf {
		is = len(n.Kids)
	}
	counts := []int{0, 1, 2, is - 1, is, is + 1, mostKeys, mostKeys + 1, mostKids, mostKids + 1, is + 256, 256 * is, 0x0100, 0x7fff, 0x8000, math.MaxUint16}
	for _, count := range counts {
		if count&math.MaxUint16 == is {
			continue
		}
		other := slices.Clone(body)
		other[0], other[1] = byte(count>>8), byte(count)
		checkNoRead(t, kind, other, k, v)
	}
}

// P11.1: bodies that tell nodes that break a rule, with the number of parts that they have.
func TestBodiesOfFaults(t *testing.T) {
	for _, w := range lengths() {
		k, v := w[0], w[1]
		for _, f := range faults(k, v) {
			kind, body := laid(f.node)
			checkBody(t, kind, body, k, v)
			checkBody(t, 7-kind, body, k, v)
		}
		_, mostKids := capsByWords(k, v)
		kind, body := laid(innerOf(mostKids+1, k))
		checkNoRead(t, kind, body, k, v)
		if mostKeys, _ := capsByWords(k, v); k > 1 || mostKeys < 256 {
			kind, body = laid(leafOf(mostKeys+1, k, v))
			checkNoRead(t, kind, body, k, v)
		}
	}
}

// P11.1: keys that don't rise, at every place; kids of 0 and 1, at every place.
func TestWrongPartsOfBodies(t *testing.T) {
	for _, w := range lengths() {
		k, v := w[0], w[1]
		for _, n := range rights(k, v) {
			for i := 1; i < len(n.Keys); i++ {
				for _, wrong := range [][]byte{n.Keys[i-1], n.Keys[0], make([]byte, k)} {
					other := copied(n)
					other.Keys[i] = wrong
					kind, body := laid(other)
					checkNoRead(t, kind, body, k, v)
				}
			}
			for i := range n.Kids {
				for wrong := range uint32(2) {
					other := copied(n)
					other.Kids[i] = wrong
					kind, body := laid(other)
					checkNoRead(t, kind, body, k, v)
				}
				for _, right := range []uint32{2, 3, 255, 256, 257, 65536, 65537, 1 << 24, 1<<24 + 1, 1<<31 - 1, 1 << 31, 1<<31 + 1, math.MaxUint32} {
					other := copied(n)
					other.Kids[i] = right
					kind, body := laid(other)
					checkRead(t, kind, body, k, v, other)
				}
			}
		}
	}
}

// R1 and P11.1: bodies of right nodes, read for other lengths of keys and values, and for such as may not be.
func TestOtherLengths(t *testing.T) {
	for _, w := range lengths() {
		for _, n := range rights(w[0], w[1]) {
			kind, body := laid(n)
			for _, other := range append(lengths(), mayNotBe()...) {
				checkBody(t, kind, body, other[0], other[1])
			}
		}
	}
	for k := -520; k <= 520; k++ {
		for _, v := range []int{math.MinInt, -k, -k - 1, -1, 0, 1, 109, 498 - k, math.MaxInt} {
			for length := range 12 {
				for count := range byte(3) {
					b := append([]byte{0, count}, bytes.Repeat([]byte{9}, length)...)
					checkBody(t, 3, b, k, v)
					checkBody(t, 4, b, k, v)
				}
			}
		}
	}
}

// P11.1: bodies of each length up to a block and beyond, which say each number of parts.
func TestLengthsOfBodies(t *testing.T) {
	right := 0
	for _, w := range [][2]int{{1, 0}, {1, 1}, {1, 8}, {4, 4}, {16, 88}, {24, 16}, {24, 108}} {
		long := make([]byte, 520)
		for i := range long {
			long[i] = byte(2 + i/2)
		}
		for count := range 130 {
			long[0], long[1] = 0, byte(count)
			for length := 2; length <= len(long); length++ {
				for kind := byte(3); kind <= 4; kind++ {
					if checkBody(t, kind, long[:length], w[0], w[1]) {
						right++
					}
				}
			}
		}
	}
	if right < 20 {
		t.Errorf("right ones: %d", right)
	}
}

// P11.1: all short bodies of one key, of two keys, of two kids.
func TestAllShortBodies(t *testing.T) {
	for a := range 256 {
		for b := range 256 {
			checkBody(t, 3, []byte{byte(a), byte(b), 7}, 1, 0)
			checkBody(t, 3, []byte{0, 1, byte(a), byte(b)}, 1, 1)
			if checkBody(t, 3, []byte{0, 2, byte(a), byte(b)}, 1, 0) != (a < b) {
				t.Errorf("keys %d and %d", a, b)
			}
			checkBody(t, 4, []byte{byte(a), byte(b), 0, 0, 0, 9, 0, 0, 0, 9, 9}, 1, 0)
			if checkBody(t, 4, []byte{0, 2, 0, 0, 0, byte(a), 0, 0, 0, byte(b), 9}, 1, 7) != (a > 1 && b > 1) {
				t.Errorf("kids %d and %d", a, b)
			}
			if checkBody(t, 4, []byte{0, 3, 0, 0, 0, 9, 0, 0, 0, 8, 0, 0, 0, 7, byte(a), byte(b)}, 1, 108) != (a < b) {
				t.Errorf("keys %d and %d of an inner node", a, b)
			}
		}
	}
}

// P11.2: what a body says has that one body alone: another one, changed in a byte, says something else, or nothing.
func TestOneWay(t *testing.T) {
	for _, w := range lengths() {
		k, v := w[0], w[1]
		for _, n := range rights(k, v) {
			kind, body := laid(n)
			for at := range body {
				for _, by := range []byte{1, 2, 128, 255} {
					other := slices.Clone(body)
					other[at] ^= by
					if m, err := Read(kind, other, k, v); err == api.OK && same(m, n) {
						t.Errorf("of %v: %v and %v say the same", w, body, other)
					}
					checkBody(t, kind, other, k, v)
				}
			}
		}
	}
}

// P11.2: there and back, random nodes of all k and v.
func TestThereAndBack(t *testing.T) {
	source := rand.New(rand.NewSource(112))
	for k := 1; k <= 24; k++ {
		for v := range 109 {
			for range 6 {
				n := randomNode(source, k, v)
				if !checkNode(t, n, k, v) {
					t.Fatalf("of %d and %d: %v isn't right by the words", k, v, n)
				}
				kind, body, _ := Write(n, k, v)
				m, err := Read(kind, body, k, v)
				if err != api.OK || !same(m, n) {
					t.Errorf("of %d and %d: %v is read as %v, and %d", k, v, n, m, err)
				}
			}
		}
	}
}

// P11.1 and P11.2: random bodies, of which some are right.
func TestRandomBodies(t *testing.T) {
	source := rand.New(rand.NewSource(113))
	so := map[bool]int{}
	for range 40000 {
		k, v := 1+source.Intn(24), source.Intn(109)
		kind, body := laid(randomNode(source, k, v))
		switch source.Intn(6) {
		case 0:
			body[source.Intn(len(body))] ^= 1 << source.Intn(8)
		case 1:
			body = body[:source.Intn(len(body)+1)]
		case 2:
			body = append(body, randomRow(source, source.Intn(30))...)
		case 3:
			kind = byte(source.Intn(256))
		case 4:
			k, v = k+source.Intn(3)-1, v+source.Intn(3)-1
		}
		so[checkBody(t, kind, body, k, v)]++
	}
	if so[true] < 5000 || so[false] < 5000 {
		t.Errorf("right and wrong so often: %v", so)
	}
}

// P11.1 and P11.2, of any bytes and lengths.
func FuzzRead(f *testing.F) {
	f.Add(byte(3), []byte{0, 2, 1, 7, 2, 8}, 1, 1)
	f.Add(byte(4), []byte{0, 2, 0, 0, 1, 44, 0, 0, 0, 2, 9, 9}, 2, 7)
	f.Add(byte(3), []byte{1}, 0, 0)
	f.Add(byte(4), []byte{0, 0, 0, 0}, -4, 8)
	f.Add(byte(2), []byte{0, 1, 1}, 1, 0)
	f.Fuzz(func(t *testing.T, kind byte, body []byte, k, v int) {
		for _, sort := range []byte{kind, 3, 4} {
			checkBody(t, sort, body, k, v)
			checkBody(t, sort, body, 1+int(uint(k)%24), int(uint(v)%109))
			checkBody(t, sort, append([]byte{0, kind}, body...), 1+int(uint(k)%24), int(uint(v)%109))
		}
	})
}

// nodeOf is a node of bytes, mostly a right one: its keys are told by how far each is behind the one ahead.
func nodeOf(leaf bool, b []byte, k, v int) api.Node {
	n := api.Node{Leaf: leaf}
	at := uint32(0)
	for i, by := range b {
		at += uint32(by)
		if by == 255 {
			at -= 300
		}
		row := bytes.Repeat([]byte{byte(at >> 16)}, max(0, min(k, 30)))
		for j := range min(len(row), 4) {
			row[len(row)-1-j] = byte(at >> (8 * j))
		}
		if leaf || i > 0 {
			n.Keys = append(n.Keys, row)
		}
		if leaf {
			n.Values = append(n.Values, bytes.Repeat([]byte{by}, max(0, min(v, 120))))
		} else {
			n.Kids = append(n.Kids, at)
		}
	}
	return n
}

// P11.1 and P11.2, of any nodes, right or not.
func FuzzWrite(f *testing.F) {
	f.Add(true, []byte{1, 2, 3}, 1, 1)
	f.Add(false, []byte{2, 2, 3}, 24, 108)
	f.Add(false, []byte{0, 2, 3}, 16, 88)
	f.Add(true, bytes.Repeat([]byte{1}, 250), 2, 0)
	f.Add(false, bytes.Repeat([]byte{9}, 100), 1, 0)
	f.Fuzz(func(t *testing.T, leaf bool, b []byte, k, v int) {
		checkNode(t, nodeOf(leaf, b, k, v), k, v)
		k, v = 1+int(uint(k)%24), int(uint(v)%109)
		checkNode(t, nodeOf(leaf, b, k, v), k, v)
	})
}
