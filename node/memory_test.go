package node

import (
	"bytes"
	"slices"
	"testing"

	"cashbook/api"
)

// spoil writes over a row of numbers, and over all that lies behind them in their memory.
func spoil[T byte | uint32](l []T) {
	l = l[:cap(l)]
	for i := range l {
		l[i] = ^l[i]
	}
}

// spoilRows writes over rows and over all that lies behind each of them, and takes the rows away.
func spoilRows(rows [][]byte) {
	for _, r := range rows {
		spoil(r)
	}
	rows = rows[:cap(rows)]
	for i := range rows {
		rows[i] = []byte{99}
	}
}

// spoilNode writes over all that a node has.
func spoilNode(n api.Node) {
	spoilRows(n.Keys)
	spoilRows(n.Values)
	spoil(n.Kids)
}

// roomy is the same node, all of whose lists have something behind them in their memory.
func roomy(n api.Node) api.Node {
	c := copied(n)
	for _, rows := range [][][]byte{c.Keys, c.Values} {
		for i, r := range rows {
			rows[i] = append(slices.Clone(r), 1, 2, 3)[:len(r)]
		}
	}
	c.Keys = append(slices.Clone(c.Keys), []byte{1}, []byte{2})[:len(n.Keys)]
	c.Values = append(slices.Clone(c.Values), []byte{3}, []byte{4})[:len(n.Values)]
	c.Kids = append(slices.Clone(c.Kids), 5, 6)[:len(n.Kids)]
	return c
}

// whole is a node with what lies behind its lists, so far as roomy laid it.
func whole(n api.Node) api.Node {
	c := api.Node{Leaf: n.Leaf, Kids: n.Kids[:len(n.Kids)+2]}
	for _, r := range n.Keys {
		c.Keys = append(c.Keys, r[:len(r)+3])
	}
	for _, r := range n.Values {
		c.Values = append(c.Values, r[:len(r)+3])
	}
	c.Keys = append(c.Keys, n.Keys[:len(n.Keys)+2][len(n.Keys):]...)
	c.Values = append(c.Values, n.Values[:len(n.Values)+2][len(n.Values):]...)
	return c
}

// R3: nodes, keys and bodies that are handed in aren't changed, nor is what lies behind them in memory.
func TestHandedInStays(t *testing.T) {
	for _, w := range lengths() {
		k, v := w[0], w[1]
		nodes := rights(k, v)
		for _, f := range faults(k, v) {
			nodes = append(nodes, f.node)
		}
		for _, n := range nodes {
			handed := roomy(n)
			was := copied(whole(handed))
			Right(handed, k, v)
			Write(handed, k, v)
			keys := [][]byte{nil, bytes.Repeat([]byte{7}, k), bytes.Repeat([]byte{255}, 30)}
			for _, key := range append(keys, handed.Keys...) {
				Place(handed, key)
				Kid(handed, key)
			}
			if !same(whole(handed), was) || !slices.EqualFunc(keys, [][]byte{nil, bytes.Repeat([]byte{7}, k), bytes.Repeat([]byte{255}, 30)}, bytes.Equal) {
				t.Errorf("of %v: %v was changed", w, n)
			}
			kind, body := laid(n)
			room := slices.Concat(body, []byte{7, 8, 9})
			for _, cut := range []int{0, 1, len(body) - 1, len(body), len(body) + 1} {
				Read(kind, room[:cut], k, v)
				Read(7-kind, room[:cut], k, v)
			}
			if !bytes.Equal(room, slices.Concat(body, []byte{7, 8, 9})) {
				t.Errorf("of %v: the body %v was changed", w, body)
			}
		}
	}
}

// R3: a body is new memory: whoever writes into the node, or into another body, changes nothing of it, and the other way round.
func TestBodiesAreNew(t *testing.T) {
	for _, w := range lengths() {
		for _, n := range rights(w[0], w[1]) {
			_, want := laid(n)
			handed := roomy(n)
			_, first, _ := Write(handed, w[0], w[1])
			_, second, _ := Write(handed, w[0], w[1])
			spoil(first)
			if !same(handed, n) || !bytes.Equal(second, want) {
				t.Errorf("of %v: a body shares its bytes", w)
			}
			spoilNode(handed)
			if !bytes.Equal(second, want) {
				t.Errorf("of %v: the body has become %v", w, second)
			}
			checkNode(t, n, w[0], w[1])
		}
	}
}

// R3: a node that was told is new memory: whoever writes into the body, or into another node, changes nothing of it, and the other way round.
func TestNodesAreNew(t *testing.T) {
	for _, w := range lengths() {
		k, v := w[0], w[1]
		for _, n := range rights(k, v) {
			kind, body := laid(n)
			was := slices.Clone(body)
			first, _ := Read(kind, body, k, v)
			second, _ := Read(kind, body, k, v)
			spoilNode(first)
			if !bytes.Equal(body, was) || !same(second, n) {
				t.Errorf("of %v: a node shares its bytes", w)
			}
			checkRead(t, kind, body, k, v, n)
			spoil(body)
			if !same(second, n) {
				t.Errorf("of %v: the node has become %v", w, second)
			}
		}
	}
}

// R3: no two lists of one node share their memory: whoever writes into one of them, or behind it, changes no other one.
func TestListsShareNothing(t *testing.T) {
	for _, w := range lengths() {
		k, v := w[0], w[1]
		for _, n := range rights(k, v) {
			kind, body := laid(n)
			for i := range n.Keys {
				m, _ := Read(kind, body, k, v)
				spoil(m.Keys[i])
				m.Keys[i] = n.Keys[i]
				if n.Leaf {
					spoil(m.Values[i])
					m.Values[i] = n.Values[i]
				}
				if !same(m, n) {
					t.Fatalf("of %v: what has key %d shares its bytes", w, i)
				}
			}
			m, _ := Read(kind, body, k, v)
			spoil(m.Kids)
			m.Kids = n.Kids
			if !same(m, n) {
				t.Errorf("of %v: the kids share their bytes", w)
			}
		}
	}
}

// R5: the same arguments are answered the same way, whatever was asked between.
func TestNothingIsKept(t *testing.T) {
	right := rights(2, 1)
	for range 3 {
		for _, w := range lengths() {
			for _, n := range rights(w[0], w[1]) {
				checkNode(t, n, w[0], w[1])
			}
			for _, f := range faults(w[0], w[1]) {
				checkNode(t, f.node, w[0], w[1])
			}
			checkNoRead(t, 3, []byte{0, 2, 1, 7, 2}, 1, 1)
			for _, n := range right {
				checkNode(t, n, 2, 1)
				checkPlace(t, n, n.Keys[0])
			}
		}
		checkCaps(t, 16, 88, 4, 25)
	}
}
