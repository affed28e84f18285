package cursor

import (
	"bytes"
	"encoding/binary"
	"math"
	"math/rand"
	"slices"
	"strconv"
	"testing"

	"cashbook/api"
	"cashbook/disk"
	"cashbook/pager"
	"cashbook/tree"
)

// shapeOf is how many bytes a tree's keys and values have, by the table of chapter 12.
func shapeOf(t int) (int, int) {
	keys := []int{16, 16, 16, 16, 24, 24, 24, 1}
	values := []int{88, 108, 1, 16, 16, 16, 65, 8}
	return keys[t], values[t]
}

// mostOf is how many keys a leaf of a tree has at most, and how many kids an inner node, by the words of chapter 11.
func mostOf(t int) (int, int) {
	k, v := shapeOf(t)
	return 498 / (k + v), (498 + k) / (4 + k)
}

// keyOf is the n-th key of a tree: its number is its last bytes.
func keyOf(t, n int) []byte {
	k, _ := shapeOf(t)
	b := binary.BigEndian.AppendUint64(make([]byte, 24), uint64(n))
	return slices.Clone(b[len(b)-k:])
}

// valueOf is a value of a tree.
func valueOf(t, n int) []byte {
	_, v := shapeOf(t)
	return bytes.Repeat([]byte{byte(n), byte(n >> 8), 3}, 40)[:v]
}

// countOf is how many keys of its numbers a tree may have at most here.
func countOf(t, n int) int {
	if t == api.TreeMeta {
		return min(n, 250)
	}
	return n
}

// eachTree runs a test of each of the eight trees.
func eachTree(t *testing.T, test func(t *testing.T, tr int)) {
	for tr := range 8 {
		t.Run("tree "+strconv.Itoa(tr), func(t *testing.T) {
			t.Parallel()
			test(t, tr)
		})
	}
}

// shelf is a pager of a disk, and what its trees should have.
type shelf struct {
	testing.TB
	d   *disk.Disk
	p   *pager.Pager
	has [8]map[string]string
}

// newShelf is one of a disk that was just formatted.
func newShelf(t testing.TB, blocks int) *shelf {
	t.Helper()
	d, _ := disk.New(blocks)
	if e := pager.Format(d); e != api.OK {
		t.Fatal(e)
	}
	p, e := pager.Open(d)
	if e != api.OK {
		t.Fatal(e)
	}
	s := &shelf{TB: t, d: d, p: p}
	for i := range s.has {
		s.has[i] = map[string]string{}
	}
	return s
}

// ok stops the test at an error.
func (s *shelf) ok(e api.Errno) {
	s.Helper()
	if e != api.OK {
		s.Fatal(e)
	}
}

// put puts the n-th key.
func (s *shelf) put(t, n, value int) {
	s.Helper()
	s.ok(tree.Put(s.p, t, keyOf(t, n), valueOf(t, value)))
	s.has[t][string(keyOf(t, n))] = string(valueOf(t, value))
}

// cut cuts the n-th key, if it is there.
func (s *shelf) cut(t, n int) {
	s.Helper()
	key := string(keyOf(t, n))
	if _, there := s.has[t][key]; there {
		s.ok(tree.Cut(s.p, t, []byte(key)))
		delete(s.has[t], key)
	}
}

// fall lets the disk fall: what isn't fresh can't be read from now on.
func (s *shelf) fall() {
	s.Helper()
	s.d.Fuse(0)
	if e := s.d.Sync(); e != api.ErrDown {
		s.Fatal(e)
	}
}

// rangeOf is a range by the chapter's words.
func (s *shelf) rangeOf(t int, from, to []byte, down bool) []Pair {
	var all []Pair
	for k, v := range s.has[t] {
		if bytes.Compare([]byte(k), from) >= 0 && bytes.Compare([]byte(k), to) <= 0 {
			all = append(all, Pair{[]byte(k), []byte(v)})
		}
	}
	slices.SortFunc(all, func(a, b Pair) int { return bytes.Compare(a.Key, b.Key) })
	if down {
		slices.Reverse(all)
	}
	return all
}

// alike tells whether two rows of pairs are the same.
func alike(a, b []Pair) bool {
	return slices.EqualFunc(a, b, func(x, y Pair) bool { return bytes.Equal(x.Key, y.Key) && bytes.Equal(x.Value, y.Value) })
}

// byNext is all that a cursor tells.
func byNext(s *shelf, c *Cursor) []Pair {
	s.Helper()
	var all []Pair
	for {
		pair, there := c.Next()
		if !there {
			s.ended(c, pair)
			return all
		}
		all = append(all, pair)
	}
}

// ended looks whether a cursor that has told that there is nothing more tells so from now on.
func (s *shelf) ended(c *Cursor, last Pair) {
	s.Helper()
	for range 4 {
		if last.Key != nil || last.Value != nil {
			s.Fatalf("behind the end: %x", last)
		}
		again, there := c.Next()
		if there {
			s.Fatalf("behind the end: %x", again)
		}
		last = again
	}
}

// byWalk is all that a walk tells.
func byWalk(walk func(func([]byte, []byte) bool)) []Pair {
	var all []Pair
	for k, v := range walk {
		all = append(all, Pair{k, v})
	}
	return all
}

// tells looks whether all three ways of asking for a range tell the same, as they should.
func (s *shelf) tells(t int, from, to []byte, down bool, want []Pair) {
	s.Helper()
	walk := Walk(s.p, t, from, to, down)
	for name, got := range map[string][]Pair{
		"Next": byNext(s, Start(s.p, t, from, to, down)),
		"List": List(s.p, t, from, to, down, math.MaxInt),
		"Walk": byWalk(walk),
		"anew": byWalk(walk),
	} {
		if !alike(got, want) {
			s.Fatalf("%s of tree %d from %x to %x, down %v: %x, and should be %x", name, t, from, to, down, got, want)
		}
	}
}

// ask asks for a range, up and down.
func (s *shelf) ask(t int, from, to []byte) {
	s.Helper()
	s.tells(t, from, to, false, s.rangeOf(t, from, to, false))
	s.tells(t, from, to, true, s.rangeOf(t, from, to, true))
}

// highest is a row that stands behind all keys.
func highest() []byte { return bytes.Repeat([]byte{255}, 30) }

// about are rows at a key, just ahead of it, and just behind it, of its length and of others.
func about(key []byte) [][]byte {
	less, more := slices.Clone(key), slices.Clone(key)
	for i := len(key) - 1; i >= 0; i-- {
		less[i]--
		if less[i] != 255 {
			break
		}
	}
	for i := len(key) - 1; i >= 0; i-- {
		more[i]++
		if more[i] != 0 {
			break
		}
	}
	return [][]byte{key, less, more, key[:len(key)-1], append(slices.Clone(key), 0), append(slices.Clone(less), highest()...)}
}

// edges are rows that stand ahead of all keys, behind all, or have any length.
func edges() [][]byte {
	return [][]byte{nil, {}, {0}, make([]byte, 40), {1}, {0, 0, 0, 0, 7}, {128}, {255}, highest(), bytes.Repeat([]byte{0, 255}, 300)}
}

// twig is a node as its page says, by the words of chapter 11, and those below it.
type twig struct {
	page         uint32
	keys, values [][]byte
	kids         []*twig
}

// grown is the node of a page, and all below it.
func (s *shelf) grown(t int, page uint32) *twig {
	s.Helper()
	kind, body, e := s.p.Read(page)
	s.ok(e)
	k, v := shapeOf(t)
	n, count, at := &twig{page: page}, int(body[0])<<8+int(body[1]), 2
	take := func(size int) []byte {
		at += size
		return body[at-size : at]
	}
	for range count {
		if kind == 3 {
			n.keys, n.values = append(n.keys, take(k)), append(n.values, take(v))
		} else {
			n.kids = append(n.kids, s.grown(t, binary.BigEndian.Uint32(take(4))))
		}
	}
	for kind == 4 && len(n.keys) < count-1 {
		n.keys = append(n.keys, take(k))
	}
	return n
}

// leaves are the leaves below a node, in order.
func (n *twig) leaves() []*twig {
	if len(n.kids) == 0 {
		return []*twig{n}
	}
	var all []*twig
	for _, kid := range n.kids {
		all = append(all, kid.leaves()...)
	}
	return all
}

// pages are the pages of a node and of all below it.
func (n *twig) pages() []uint32 {
	all := []uint32{n.page}
	for _, kid := range n.kids {
		all = append(all, kid.pages()...)
	}
	return all
}

// height is how many levels there are from a node on.
func (n *twig) height() int {
	if len(n.kids) == 0 {
		return 1
	}
	return 1 + n.kids[0].height()
}

// told is what a range tells of a node, if some pages can't be read: it ends at the first one that it comes to; and whether it goes on.
func (n *twig) told(from, to []byte, down bool, bad map[uint32]bool) ([]Pair, bool) {
	if bad[n.page] {
		return nil, false
	}
	var all []Pair
	for i := range max(len(n.keys), len(n.kids)) {
		if down {
			i = max(len(n.keys), len(n.kids)) - 1 - i
		}
		if len(n.kids) == 0 {
			if bytes.Compare(n.keys[i], from) >= 0 && bytes.Compare(n.keys[i], to) <= 0 {
				all = append(all, Pair{n.keys[i], n.values[i]})
			}
			continue
		}
		// A kid has keys from the one ahead of it on, and ahead of the next one.
		if i > 0 && bytes.Compare(n.keys[i-1], to) > 0 || i < len(n.keys) && bytes.Compare(n.keys[i], from) <= 0 {
			continue
		}
		some, on := n.kids[i].told(from, to, down, bad)
		all = append(all, some...)
		if !on {
			return all, false
		}
	}
	return all, true
}

// Which of the sizes that a node may have it gets.
const (
	small = iota
	great
	chance
)

// planter lays right trees of its own.
type planter struct {
	*shelf
	tree, how int
	rnd       *rand.Rand
}

// parts are how many of n things each node of a level gets, which has at most so many, and half of that at least, if it isn't alone.
func (l *planter) parts(n, most int) []int {
	var all []int
	for n > 0 {
		var may []int
		for c := min(most/2, n); c <= min(most, n); c++ {
			if n == c || n-c >= most/2 {
				may = append(may, c)
			}
		}
		c := may[0]
		if l.how == great {
			c = may[len(may)-1]
		} else if l.how == chance {
			c = may[l.rnd.Intn(len(may))]
		}
		all, n = append(all, c), n-c
	}
	return all
}

// laid is a node that has been laid, and its first and last key's numbers.
type laid struct {
	page        uint32
	first, last int
}

// make makes a page of a node, whose parts follow.
func (l *planter) make(kind byte, count int, parts ...[]byte) uint32 {
	l.Helper()
	body := binary.BigEndian.AppendUint16(nil, uint16(count))
	page, e := l.p.Make(kind, append(body, slices.Concat(parts...)...))
	l.ok(e)
	return page
}

// leaf lays a leaf.
func (l *planter) leaf(numbers []int) laid {
	l.Helper()
	var parts [][]byte
	for _, n := range numbers {
		parts = append(parts, keyOf(l.tree, n), valueOf(l.tree, n))
		l.has[l.tree][string(keyOf(l.tree, n))] = string(valueOf(l.tree, n))
	}
	return laid{l.make(3, len(numbers), parts...), numbers[0], numbers[len(numbers)-1]}
}

// inner lays an inner node: a key between kids is the next one's first, or any that lies between.
func (l *planter) inner(kids []laid) laid {
	l.Helper()
	var parts, keys [][]byte
	for i, kid := range kids {
		parts = append(parts, binary.BigEndian.AppendUint32(nil, kid.page))
		if i > 0 {
			keys = append(keys, keyOf(l.tree, kid.first-l.rnd.Intn(kid.first-kids[i-1].last)))
		}
	}
	return laid{l.make(4, len(kids), append(parts, keys...)...), kids[0].first, kids[len(kids)-1].last}
}

// plant lays a right tree of keys, level by level.
func (s *shelf) plant(t, how int, seed int64, numbers []int) {
	s.Helper()
	l := &planter{shelf: s, tree: t, how: how, rnd: rand.New(rand.NewSource(seed))}
	keys, kids := mostOf(t)
	var level []laid
	at := 0
	for _, size := range l.parts(len(numbers), keys) {
		level, at = append(level, l.leaf(numbers[at:at+size])), at+size
	}
	height := uint32(1)
	for ; len(level) > 1; height++ {
		var above []laid
		for _, size := range l.parts(len(level), kids) {
			above, level = append(above, l.inner(level[:size])), level[size:]
		}
		level = above
	}
	s.ok(s.p.SetRoot(t, api.Root{Page: level[0].page, Count: uint32(len(numbers)), Height: height}))
}

// every are so many numbers: from a step on, each of them a step behind the one ahead of it.
func every(n, step int) []int {
	all := make([]int, n)
	for i := range all {
		all[i] = (i + 1) * step
	}
	return all
}
