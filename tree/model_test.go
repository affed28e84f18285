package tree

import (
	"bytes"
	"encoding/binary"
	"fmt"
	"maps"
	"math/rand"
	"slices"
	"testing"

	"cashbook/api"
	"cashbook/disk"
	"cashbook/pager"
)

// sizes are how many bytes keys and values have, by the chapter's table.
func sizes(t int) (int, int) {
	all := [][2]int{{16, 88}, {16, 108}, {16, 1}, {16, 16}, {24, 16}, {24, 16}, {24, 65}, {1, 8}}
	return all[t][0], all[t][1]
}

// capsOf are how many keys find room in 500 bytes with a count of two ahead, and how many kids of four bytes with keys between, counted one by one.
func capsOf(t int) (int, int) {
	k, v := sizes(t)
	keys, kids := 0, 1
	for 2+(keys+1)*(k+v) <= 500 {
		keys++
	}
	for 2+(kids+1)*4+kids*k <= 500 {
		kids++
	}
	return keys, kids
}

// keyOf is the n-th key of a tree.
func keyOf(t, n int) []byte {
	k, _ := sizes(t)
	b := make([]byte, k)
	for i := k - 1; i >= 0 && n > 0; i-- {
		b[i] = byte(n)
		n >>= 8
	}
	return b
}

// valueOf is a value of a tree.
func valueOf(t, n int) []byte {
	_, v := sizes(t)
	b := make([]byte, v)
	for i := range b {
		b[i] = byte(n + n>>8*31 + i*7)
	}
	return b
}

// plain is a node as its body says by the words of chapter 11.
type plain struct {
	leaf         bool
	keys, values [][]byte
	kids         []uint32
}

// size is how many keys a leaf has, how many kids an inner node.
func (n plain) size() int {
	if n.leaf {
		return len(n.keys)
	}
	return len(n.kids)
}

// plainOf reads a body.
func plainOf(t int, kind byte, body []byte) (plain, error) {
	k, v := sizes(t)
	if kind != 3 && kind != 4 || len(body) < 2 {
		return plain{}, fmt.Errorf("kind %d, %d bytes", kind, len(body))
	}
	n := plain{leaf: kind == 3}
	count, at := int(binary.BigEndian.Uint16(body)), 2
	long := 2 + count*(k+v)
	if !n.leaf {
		long = 2 + count*4 + (count-1)*k
	}
	if long != len(body) {
		return n, fmt.Errorf("kind %d, count %d, %d bytes", kind, count, len(body))
	}
	take := func(size int) []byte {
		at += size
		return body[at-size : at]
	}
	for range count {
		if n.leaf {
			n.keys, n.values = append(n.keys, take(k)), append(n.values, take(v))
		} else {
			n.kids = append(n.kids, binary.BigEndian.Uint32(take(4)))
		}
	}
	for !n.leaf && len(n.keys) < count-1 {
		n.keys = append(n.keys, take(k))
	}
	return n, nil
}

// bodyOf are a node's kind and body by the words of chapter 11.
func bodyOf(n plain) (byte, []byte) {
	body := binary.BigEndian.AppendUint16(nil, uint16(n.size()))
	for _, kid := range n.kids {
		body = binary.BigEndian.AppendUint32(body, kid)
	}
	for i, k := range n.keys {
		body = append(body, k...)
		if n.leaf {
			body = append(body, n.values[i]...)
		}
	}
	if n.leaf {
		return 3, body
	}
	return 4, body
}

// look goes through a tree by the chapter's words.
type look struct {
	p      *pager.Pager
	tree   int
	height uint32
	seen   map[uint32]bool
	want   map[string]string // what it should have
	count  int
}

// down looks at a node, and at all below it: its keys mayn't be ahead of low, nor at high or behind, if there are such.
func (l *look) down(n, level uint32, low, high []byte) error {
	if l.seen[n] {
		return fmt.Errorf("page %d is a node twice", n)
	}
	l.seen[n] = true
	kind, body, e := l.p.Read(n)
	if e != api.OK {
		return fmt.Errorf("page %d: %d", n, e)
	}
	at, err := plainOf(l.tree, kind, body)
	if err != nil {
		return fmt.Errorf("page %d: %v", n, err)
	}
	if at.leaf != (level == l.height) {
		return fmt.Errorf("page %d at level %d of %d: leaf %v", n, level, l.height, at.leaf)
	}
	keys, kids := capsOf(l.tree)
	most, least := kids, 2
	if at.leaf {
		most, least = keys, 1
	}
	if level > 1 {
		least = most / 2
	}
	if at.size() > most || at.size() < least {
		return fmt.Errorf("page %d at level %d of %d has %d", n, level, l.height, at.size())
	}
	for i, k := range at.keys {
		if i > 0 && bytes.Compare(at.keys[i-1], k) >= 0 || low != nil && bytes.Compare(k, low) < 0 || high != nil && bytes.Compare(k, high) >= 0 {
			return fmt.Errorf("page %d: key %x between %x and %x", n, k, low, high)
		}
	}
	for i, v := range at.values {
		if want, ok := l.want[string(at.keys[i])]; !ok || want != string(v) {
			return fmt.Errorf("page %d: key %x has %x, and should have %x", n, at.keys[i], v, want)
		}
		l.count++
	}
	for i, kid := range at.kids {
		from, to := low, high
		if i > 0 {
			from = at.keys[i-1]
		}
		if i < len(at.keys) {
			to = at.keys[i]
		}
		if err := l.down(kid, level+1, from, to); err != nil {
			return err
		}
	}
	return nil
}

// nodesOf are which pages are a tree's nodes, if it is right, and has what it should.
func nodesOf(p *pager.Pager, t int, want map[string]string) (map[uint32]bool, error) {
	r := p.Root(t)
	l := &look{p: p, tree: t, height: r.Height, seen: map[uint32]bool{}, want: want}
	if r.Page != 0 {
		if err := l.down(r.Page, 1, nil, nil); err != nil {
			return nil, fmt.Errorf("tree %d, root %v: %v", t, r, err)
		}
	} else if r != (api.Root{}) {
		return nil, fmt.Errorf("tree %d, root %v", t, r)
	}
	// All keys rise, so that each was counted once.
	if int(r.Count) != l.count || l.count != len(want) {
		return nil, fmt.Errorf("tree %d, root %v: %d keys, and should have %d", t, r, l.count, len(want))
	}
	return l.seen, nil
}

// used are the pages that are fresh, or in use and not deferred.
func used(p *pager.Pager) []uint32 {
	others := make([]bool, p.Blocks())
	for _, n := range slices.Concat(p.Free(), p.Lists(), p.Deferred()) {
		others[n] = true
	}
	var all []uint32
	for n := 2; n < p.Blocks(); n++ {
		if !others[n] {
			all = append(all, uint32(n))
		}
	}
	return all
}

// sorts are the roots, and which page is what.
func sorts(p *pager.Pager) []uint32 {
	all := []uint32{uint32(p.Seq()), uint32(p.Room())}
	for t := range 8 {
		r := p.Root(t)
		all = append(all, r.Page, r.Count, r.Height)
	}
	for _, l := range [][]uint32{p.Free(), p.Lists(), p.Deferred(), p.Fresh()} {
		all = append(append(all, uint32(len(l))), l...)
	}
	return all
}

// snap is all that can be told of a pager: the roots, which page is what, and what every page says that can be read.
func snap(p *pager.Pager) string {
	var s []byte
	for _, n := range sorts(p) {
		s = binary.BigEndian.AppendUint32(s, n)
	}
	for n := range uint32(p.Blocks()) {
		kind, body, e := p.Read(n)
		s = append(append(s, kind, byte(e), byte(len(body)>>8), byte(len(body))), body...)
	}
	return string(s)
}

// held is what the eight trees should have.
type held [8]map[string]string

// copied is the same, and from now on another one.
func (h held) copied() held {
	for t := range h {
		h[t] = maps.Clone(h[t])
		if h[t] == nil {
			h[t] = map[string]string{}
		}
	}
	return h
}

// book is a pager of a disk, and what should be in it.
type book struct {
	testing.TB
	d     *disk.Disk
	p     *pager.Pager
	now   held
	begun held
	eaten []uint32 // pages that were made to take room, and are nobody's nodes
}

// newBook is one of a disk that was just formatted.
func newBook(t testing.TB, blocks int) *book {
	t.Helper()
	d, e := disk.New(blocks)
	if e != api.OK {
		t.Fatal(e)
	}
	if e := pager.Format(d); e != api.OK {
		t.Fatal(e)
	}
	p, e := pager.Open(d)
	if e != api.OK {
		t.Fatal(e)
	}
	return &book{TB: t, d: d, p: p, now: held{}.copied(), begun: held{}.copied()}
}

// check looks whether a tree is right, and has what it should.
func (b *book) check(t int) {
	b.Helper()
	if _, err := nodesOf(b.p, t, b.now[t]); err != nil {
		b.Fatal(err)
	}
}

// checkAll looks at all trees, and whether all pages in use are nodes of them, each of one.
func (b *book) checkAll() {
	b.Helper()
	nodes := slices.Clone(b.eaten)
	for t := range 8 {
		pages, err := nodesOf(b.p, t, b.now[t])
		if err != nil {
			b.Fatal(err)
		}
		nodes = slices.AppendSeq(nodes, maps.Keys(pages))
	}
	slices.Sort(nodes)
	if u := used(b.p); !slices.Equal(nodes, u) {
		b.Fatalf("nodes %v, pages in use %v", nodes, u)
	}
}

// fresher are how many pages are fresh that weren't.
func fresher(was, now []uint32) int {
	n := 0
	for _, page := range now {
		if !slices.Contains(was, page) {
			n++
		}
	}
	return n
}

// roomOf is how many pages a Put or Cut takes at most.
func (b *book) roomOf(t int) int { return 2*int(b.p.Root(t).Height) + 1 }

// change asks for a Put or Cut, and looks whether it takes as much room as it may, and changes nothing if it is an error.
func (b *book) change(t int, call func() api.Errno) api.Errno {
	b.Helper()
	was, free, fresh, most := sorts(b.p), b.p.Room(), b.p.Fresh(), b.roomOf(t)
	e := call()
	if e != api.OK && !slices.Equal(sorts(b.p), was) {
		b.Fatalf("behind %d: %v, and was %v", e, sorts(b.p), was)
	}
	if e == api.ErrFull && free >= most {
		b.Fatalf("full, though %d are free of %d", free, most)
	}
	if free-b.p.Room() > most || fresher(fresh, b.p.Fresh()) > most {
		b.Fatalf("%d fewer are free, %v fresh behind %v, of %d", free-b.p.Room(), b.p.Fresh(), fresh, most)
	}
	return e
}

// put puts, and looks at what it did.
func (b *book) put(t int, key, value []byte) api.Errno {
	b.Helper()
	e := b.change(t, func() api.Errno { return Put(b.p, t, key, value) })
	if e == api.OK {
		b.now[t][string(key)] = string(value)
	} else if e != api.ErrFull {
		b.Fatal(e)
	}
	b.check(t)
	b.get(t, key)
	return e
}

// cut cuts, and looks at what it did.
func (b *book) cut(t int, key []byte) api.Errno {
	b.Helper()
	_, there := b.now[t][string(key)]
	e := b.change(t, func() api.Errno { return Cut(b.p, t, key) })
	if e == api.OK {
		delete(b.now[t], string(key))
	}
	if e == api.OK && !there || e == api.ErrNone && there || e != api.OK && e != api.ErrNone && e != api.ErrFull || e == api.ErrFull && !there {
		b.Fatal(e, there)
	}
	b.check(t)
	b.get(t, key)
	return e
}

// get gets, and looks at what is told.
func (b *book) get(t int, key []byte) {
	b.Helper()
	was := sorts(b.p)
	got, e := Get(b.p, t, key)
	want, there := b.now[t][string(key)]
	if there && (e != api.OK || string(got) != want) || !there && (e != api.ErrNone || got != nil) {
		b.Fatalf("tree %d, key %x: %x %d, and should be %x %v", t, key, got, e, want, there)
	}
	if !slices.Equal(sorts(b.p), was) {
		b.Fatal("a Get changed something")
	}
}

// commit commits.
func (b *book) commit() {
	b.Helper()
	if e := b.p.Commit(); e != api.OK {
		b.Fatal(e)
	}
	b.begun = b.now.copied()
}

// abort lets the transaction go.
func (b *book) abort() {
	b.p.Abort()
	b.now = b.begun.copied()
}

// eat makes pages that are nobody's nodes, till no more than so many are free.
func (b *book) eat(left int) {
	b.Helper()
	for b.p.Room() > left {
		n, e := b.p.Make(9, []byte("eaten"))
		if e != api.OK {
			b.Fatal(e)
		}
		b.eaten = append(b.eaten, n)
	}
}

// aside does something, and puts all back as it was ahead of it.
func (b *book) aside(do func()) {
	b.Helper()
	m, now, eaten := b.p.Save(), b.now.copied(), slices.Clone(b.eaten)
	do()
	if e := b.p.Back(m); e != api.OK {
		b.Fatal(e)
	}
	b.now, b.eaten = now, eaten
}

// builder lays right trees of its own, of nodes as great as it is told.
type builder struct {
	*book
	tree int
	next int // the key that comes next
	gap  int // by how much keys rise at least
	size func(level int, path []int) int
	rand *rand.Rand
}

// build lays a tree of a height: at a level, with a path of places that leads to it, a node has as many keys or kids as size says.
func (b *book) build(t, height, gap int, seed int64, size func(level int, path []int) int) {
	b.Helper()
	l := &builder{book: b, tree: t, next: gap, gap: gap, size: size, rand: rand.New(rand.NewSource(seed))}
	b.now[t] = map[string]string{}
	page, _, _ := l.lay(1, height, nil)
	if e := b.p.SetRoot(t, api.Root{Page: page, Count: uint32(len(b.now[t])), Height: uint32(height)}); e != api.OK {
		b.Fatal(e)
	}
	b.check(t)
}

// lay lays a node and all below it, and tells its page, and its first and last key.
func (l *builder) lay(level, height int, path []int) (uint32, int, int) {
	l.Helper()
	n := plain{leaf: level == height}
	first, last := l.next, l.next
	for i := range l.size(level, path) {
		if n.leaf {
			last = l.next
			k, v := keyOf(l.tree, last), valueOf(l.tree, last)
			n.keys, n.values = append(n.keys, k), append(n.values, v)
			l.now[l.tree][string(k)] = string(v)
			l.next += l.gap
			continue
		}
		kid, from, to := l.lay(level+1, height, append(slices.Clone(path), i))
		if i > 0 { // Any key between them, or the second one's first.
			n.keys = append(n.keys, keyOf(l.tree, last+1+l.rand.Intn(from-last)))
		}
		n.kids, last = append(n.kids, kid), to
	}
	kind, body := bodyOf(n)
	page, e := l.p.Make(kind, body)
	if e != api.OK {
		l.Fatal(e)
	}
	return page, first, last
}
