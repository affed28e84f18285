package tree

import (
	"math/rand"
	"slices"
	"testing"

	"cashbook/api"
)

// along tells whether a path is the beginning of the one that goes by the places.
func along(path []int, places []int) bool {
	return len(path) <= len(places) && slices.Equal(path, places[:len(path)])
}

// halfOf is the least size of a node that isn't the first one.
func halfOf(tree int, leaf bool) int {
	keys, kids := capsOf(tree)
	if leaf {
		return keys / 2
	}
	return kids / 2
}

// fullPath are sizes of a tree whose nodes on one way down are as full as may be, and whose others are as small as may be.
func fullPath(tree, height int, places []int) func(level int, path []int) int {
	keys, kids := capsOf(tree)
	return func(level int, path []int) int {
		switch {
		case along(path, places) && level == height:
			return keys
		case along(path, places):
			return kids
		}
		return halfOf(tree, level == height)
	}
}

// smallest are sizes of a tree whose nodes are all as small as may be; the first one has so many kids.
func smallest(tree, height, first int) func(level int, path []int) int {
	return func(level int, path []int) int {
		if level == 1 {
			return first
		}
		return halfOf(tree, level == height)
	}
}

// anySize are sizes by chance.
func anySize(tree, height int, r *rand.Rand) func(level int, path []int) int {
	keys, kids := capsOf(tree)
	return func(level int, path []int) int {
		most, least := kids, 2
		if level == height {
			most, least = keys, 1
		}
		if level > 1 {
			least = most / 2
		}
		if height == 3 && level < 3 { // not too many pages
			most = least + 2
		}
		if tree == api.TreeMeta && level < height {
			most = 4
		}
		return least + r.Intn(most-least+1)
	}
}

// tight asks for the same with just so many pages free, from none to as many as it may take: it is full just where fewer are free than it takes. It tells how many that is.
func (b *book) tight(t int, call func() api.Errno) int {
	b.Helper()
	most := b.roomOf(t)
	taken := make([]int, most+1)
	for left := most; left >= 0; left-- {
		taken[left] = -1
		b.aside(func() {
			b.eat(left)
			was := ""
			if left < taken[most] {
				was = snap(b.p)
			}
			if left != b.p.Room() {
				b.Fatal("the disk is too small")
			}
			e := call()
			if (e == api.ErrFull) != (left < taken[most]) {
				b.Fatalf("with %d free: %d; with %d it takes %d", left, e, most, taken[most])
			}
			if e == api.ErrFull && snap(b.p) != was {
				b.Fatal("behind ErrFull a page says something else")
			}
			b.checkAll()
			taken[left] = left - b.p.Room()
		})
	}
	return taken[most]
}

// A Put that cuts in two all nodes on its way takes twice the height and one, and no fewer will do.
func TestRoomOfPut(t *testing.T) {
	eachTree(t, func(t *testing.T, tree int) {
		if tree == api.TreeMeta { // It has too few keys for a first node that is full.
			return
		}
		_, kids := capsOf(tree)
		for height := range 4 {
			for _, at := range []int{0, kids / 2, kids - 1} {
				if height == 3 && at != tree%3*(kids-1)/2 {
					continue
				}
				places := slices.Repeat([]int{at}, 3)
				b := newBook(t, 30+height*110)
				first := []byte(nil)
				if height > 0 {
					b.build(tree, height, 3, 1, fullPath(tree, height, places[:max(height-1, 0)]))
					first = b.firstOf(tree, places)
				}
				b.commit()
				key := keyOf(tree, numberOf(first)+1)
				put := func() api.Errno { return b.put(tree, key, valueOf(tree, 9)) }
				if n := b.tight(tree, put); n != 2*height+1 {
					t.Error(height, at, n)
				}
				if height == 0 {
					continue
				}
				// In pages that are fresh it takes one for each node that is cut in two, and one for the first node.
				b.put(tree, first, valueOf(tree, 8))
				if len(b.p.Fresh()) != height {
					t.Error(b.p.Fresh())
				}
				if n := b.tight(tree, put); n != height+1 {
					t.Error(height, at, n)
				}
			}
		}
	})
}

// numberOf is which key a key is.
func numberOf(key []byte) int {
	n := 0
	for _, b := range key {
		n = n<<8 | int(b)
	}
	return n
}

// firstOf is the first key of the leaf that the places lead to.
func (b *book) firstOf(tree int, places []int) []byte {
	b.Helper()
	page := b.p.Root(tree).Page
	for level := 0; ; level++ {
		kind, body, e := b.p.Read(page)
		n, err := plainOf(tree, kind, body)
		if e != api.OK || err != nil {
			b.Fatal(e, err)
		}
		if n.leaf {
			return n.keys[0]
		}
		page = n.kids[places[level]]
	}
}

// freshen puts each key of a tree anew, so that its pages are all fresh.
func (b *book) freshen(tree int) {
	b.Helper()
	for k, v := range b.now[tree] {
		if e := Put(b.p, tree, []byte(k), []byte(v)); e != api.OK {
			b.Fatal(e)
		}
	}
	if len(b.p.Fresh()) != len(used(b.p)) {
		b.Fatal(b.p.Fresh(), used(b.p))
	}
	b.check(tree)
}

// A Cut that makes one node of two at each level, down to a height of one less.
func TestRoomOfCut(t *testing.T) {
	eachTree(t, func(t *testing.T, tree int) {
		for height := 1; height <= 3; height++ {
			if tree == api.TreeMeta && height == 3 {
				continue
			}
			for _, at := range []int{0, 1} {
				b := newBook(t, 400)
				first := 2
				if height == 1 {
					first = 1
				}
				b.build(tree, height, 3, 1, smallest(tree, height, first))
				b.commit()
				key := b.firstOf(tree, []int{at, at, at})
				b.tight(tree, func() api.Errno { return b.cut(tree, key) })
				cutBelow := func(want uint32) {
					t.Helper()
					if e := b.cut(tree, key); e != api.OK || b.p.Root(tree).Height != want {
						t.Error(height, e, b.p.Root(tree))
					}
					b.checkAll()
				}
				b.aside(func() { cutBelow(uint32(height - 1)) })
				b.freshen(tree)
				// In fresh pages it needs no room at all, and leaves two pages at the top, and one at each level below it but the last.
				free := b.p.Room()
				if n := b.tight(tree, func() api.Errno { return b.cut(tree, key) }); n > 0 {
					t.Error(height, n)
				}
				cutBelow(uint32(height - 1))
				if b.p.Room() != free+height {
					t.Error(height, free, b.p.Room())
				}
			}
		}
	})
}

// Where the node beside is too great to be one with a node that is too small, they share what they have: with the most pages that a Cut takes.
func TestRoomOfSharing(t *testing.T) {
	eachTree(t, func(t *testing.T, tree int) {
		keys, kids := capsOf(tree)
		for height := 2; height <= 3; height++ {
			if tree == api.TreeMeta && height == 3 {
				continue
			}
			for _, at := range []int{0, 1} {
				b := newBook(t, 400)
				// The node at the place is as small as may be, the one beside it is as full as may be, at each level.
				b.build(tree, height, 3, 1, func(level int, path []int) int {
					full := len(path) > 0 && path[len(path)-1] != at
					switch {
					case level == 1:
						return 2
					case full && level == height && tree != api.TreeMeta:
						return keys
					case full && level == height:
						return 50
					case full:
						return kids
					}
					return halfOf(tree, level == height)
				})
				b.commit()
				key := b.firstOf(tree, []int{at, at, at})
				want := height + 1 // the way's nodes, and the leaf beside; above it nothing is too small
				if n := b.tight(tree, func() api.Errno { return b.cut(tree, key) }); n != want {
					t.Error(height, at, n, want)
				}
				b.freshen(tree)
				if n := b.tight(tree, func() api.Errno { return b.cut(tree, key) }); n != 0 {
					t.Error(height, at, n)
				}
			}
		}
	})
}

// Trees by chance, of all heights, keys by chance put, put anew, and cut, with each number of pages free, where pages are in use, fresh, or some of both.
func TestRoomOfAny(t *testing.T) {
	eachTree(t, func(t *testing.T, tree int) {
		r := rand.New(rand.NewSource(int64(100 + tree)))
		for height := range 4 {
			if tree == api.TreeMeta && height == 3 {
				continue
			}
			for round := range 3 {
				b := newBook(t, 400)
				gap := 1
				if tree != api.TreeMeta {
					gap = 2
				}
				if height > 0 {
					b.build(tree, height, gap, r.Int63(), anySize(tree, height, r))
				}
				if round > 0 {
					b.commit()
				}
				for range 6 {
					n := r.Intn(2*len(b.now[tree]) + 2)
					if tree == api.TreeMeta {
						n = r.Intn(256)
					}
					key := keyOf(tree, n)
					put := func() api.Errno { return b.put(tree, key, valueOf(tree, r.Intn(99))) }
					cut := func() api.Errno { return b.cut(tree, key) }
					b.tight(tree, put)
					if _, there := b.now[tree][string(key)]; there {
						b.tight(tree, cut)
					}
					if round == 2 {
						cut()
						b.put(tree, keyOf(tree, n+1), valueOf(tree, n))
					}
				}
				b.checkAll()
			}
		}
	})
}

// With no page free: in pages in use nothing can be put or cut, keys that aren't there aren't, and all can be told.
func TestNoRoom(t *testing.T) {
	eachTree(t, func(t *testing.T, tree int) {
		for height := range 3 {
			b := newBook(t, 200)
			if height > 0 {
				b.build(tree, height, 3, 1, smallest(tree, height, 2))
			}
			b.commit()
			b.eat(0)
			was := snap(b.p)
			for n := range 20 {
				key := keyOf(tree, n)
				_, there := b.now[tree][string(key)]
				want := api.ErrNone
				if there {
					want = api.ErrFull
				}
				if e := b.put(tree, key, valueOf(tree, 1)); e != api.ErrFull {
					t.Error(e)
				}
				if e := b.cut(tree, key); e != want {
					t.Error(e, want)
				}
			}
			if snap(b.p) != was {
				t.Error("something has changed")
			}
			b.checkAll()
		}
	})
}

// The smallest disk: keys go in until it is full, and all of them can be cut again in the same transaction.
func TestSmallestDisk(t *testing.T) {
	eachTree(t, func(t *testing.T, tree int) {
		b := newBook(t, 8)
		n := 0
		for b.put(tree, keyOf(tree, n), valueOf(tree, n)) == api.OK {
			b.checkAll()
			n++
			if tree == api.TreeMeta && n == 256 {
				break
			}
		}
		keys, _ := capsOf(tree)
		if n < keys*2 || b.p.Root(tree).Height != 2 {
			t.Error(n, b.p.Root(tree))
		}
		for i := range n {
			if e := b.cut(tree, keyOf(tree, i)); e != api.OK {
				t.Error(e)
			}
			b.checkAll()
		}
		if len(b.p.Free()) != 5 {
			t.Error(b.p.Free())
		}
	})
}
