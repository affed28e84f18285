package cursor

import (
	"bytes"
	"encoding/binary"
	"math"
	"math/rand"
	"slices"
	"testing"

	"cashbook/api"
	"cashbook/page"
	"cashbook/tree"
)

// ends are rows about the first and last keys of leaves, of some of them, and ahead of all and behind all.
func (n *twig) ends(rnd *rand.Rand, often int) [][]byte {
	all, leaves := [][]byte{nil, highest()}, n.leaves()
	for range often {
		leaf := leaves[rnd.Intn(len(leaves))]
		key := leaf.keys[0]
		if rnd.Intn(2) == 0 {
			key = leaf.keys[len(leaf.keys)-1]
		}
		rows := about(key)
		all = append(all, rows[rnd.Intn(len(rows))])
	}
	return all
}

// broken looks whether ranges end where pages can't be read.
func (s *shelf) broken(t int, root *twig, ends [][]byte, bad ...uint32) {
	s.Helper()
	can := map[uint32]bool{}
	for _, n := range bad {
		can[n] = true
	}
	for _, from := range ends {
		for _, to := range ends {
			for _, down := range []bool{false, true} {
				var want []Pair
				if bytes.Compare(from, to) <= 0 {
					want, _ = root.told(from, to, down, can)
				}
				s.tells(t, from, to, down, want)
			}
		}
	}
}

// planted is a shelf with a tree of a height, and that tree.
func planted(t *testing.T, tr, height int) (*shelf, *twig) {
	s := newShelf(t, 400)
	s.plant(tr, small, int64(height), tall(tr, height))
	root := s.grown(tr, s.p.Root(tr).Page)
	if root.height() != height {
		t.Fatal(root.height(), height)
	}
	return s, root
}

// chosen are pages of a tree: those on the ways to its first and its last leaf, one beside each, and some others.
func chosen(root *twig, rnd *rand.Rand) []uint32 {
	var all []uint32
	for _, first := range []bool{true, false} {
		for n := root; ; {
			all = append(all, n.page)
			if len(n.kids) == 0 {
				break
			}
			at, next := 0, 1
			if !first {
				at, next = len(n.kids)-1, len(n.kids)-2
			}
			all = append(all, n.kids[next].page)
			n = n.kids[at]
		}
	}
	pages := root.pages()
	for range 4 {
		all = append(all, pages[rnd.Intn(len(pages))])
	}
	slices.Sort(all)
	return slices.Compact(all)
}

// wrong are a kind and a body that are no right node's.
type wrong struct {
	kind byte
	body []byte
}

// wrongs are such of a tree.
func wrongs(tr int) []wrong {
	k, v := shapeOf(tr)
	leaf := slices.Concat([]byte{0, 2}, keyOf(tr, 1), make([]byte, v), keyOf(tr, 2), make([]byte, v))
	inner := slices.Concat([]byte{0, 2}, []byte{0, 0, 0, 3, 0, 0, 0, 4}, keyOf(tr, 9))
	falling := slices.Concat([]byte{0, 2}, keyOf(tr, 2), make([]byte, v), keyOf(tr, 1), make([]byte, v))
	all := []wrong{{3, nil}, {4, nil}, {3, []byte{0}}, {3, []byte{0, 0}}, {4, []byte{0, 0}}, {3, falling}, {4, leaf}, {3, inner}, {3, leaf[:len(leaf)-1]}, {3, append(slices.Clone(leaf), 0)}, {4, inner[:len(inner)-k]}, {4, append(slices.Clone(inner), 0)}}
	for _, kind := range []byte{0, 1, 2, 5, 255} {
		all = append(all, wrong{kind, leaf}, wrong{kind, inner})
	}
	for _, kid := range []byte{0, 1} { // no pages of trees
		none := slices.Clone(inner)
		none[9] = kid
		all = append(all, wrong{4, none})
	}
	return all
}

// A page that is no right node can't be read as one: at each level, on the way to the first one of a range, and on the way to the next leaf, up and down.
func TestNoNode(t *testing.T) {
	eachTree(t, func(t *testing.T, tr int) {
		for _, height := range heights(tr) {
			s, root := planted(t, tr, height)
			rnd := rand.New(rand.NewSource(int64(height)))
			all := wrongs(tr)
			for i, n := range chosen(root, rnd) {
				m := s.p.Save()
				w := all[(i*7+tr)%len(all)]
				s.ok(s.p.Put(n, w.kind, w.body))
				s.broken(tr, root, root.ends(rnd, 4), n)
				s.ok(s.p.Back(m))
			}
			for _, w := range all {
				m := s.p.Save()
				n := root.pages()[rnd.Intn(len(root.pages()))]
				s.ok(s.p.Put(n, w.kind, w.body))
				s.broken(tr, root, root.ends(rnd, 1), n)
				s.ok(s.p.Back(m))
			}
			s.broken(tr, root, root.ends(rnd, 2))
		}
	})
}

// Several pages that can't be read: the range ends at the first one.
func TestSeveral(t *testing.T) {
	eachTree(t, func(t *testing.T, tr int) {
		s, root := planted(t, tr, heights(tr)[len(heights(tr))-1])
		rnd := rand.New(rand.NewSource(3))
		pages := root.pages()[1:]
		for range 12 {
			m := s.p.Save()
			var bad []uint32
			for range 2 + rnd.Intn(3) {
				bad = append(bad, pages[rnd.Intn(len(pages))])
				s.ok(s.p.Put(bad[len(bad)-1], 3, nil))
			}
			s.broken(tr, root, root.ends(rnd, 2), bad...)
			s.ok(s.p.Back(m))
		}
	})
}

// Blocks of the disk that aren't the page any more, or another one.
func TestOnDisk(t *testing.T) {
	eachTree(t, func(t *testing.T, tr int) {
		for _, height := range heights(tr) {
			s, root := planted(t, tr, height)
			s.ok(s.p.Commit())
			rnd := rand.New(rand.NewSource(int64(height)))
			for i, n := range chosen(root, rnd) {
				was, _ := s.d.Read(int(n))
				kind, body, _ := s.p.Read(n)
				other, _ := page.Seal(n+1, kind, body)
				turned := slices.Clone(was)
				turned[30] ^= 4
				none, _ := page.Seal(n, 9, body)
				s.ok(s.d.Write(int(n), [][]byte{make([]byte, 512), other, turned, none}[i%4]))
				s.broken(tr, root, root.ends(rnd, 3), n)
				s.ok(s.d.Write(int(n), was))
			}
			s.broken(tr, root, root.ends(rnd, 2))
		}
	})
}

// A disk that is down: only fresh pages can be read.
func TestDown(t *testing.T) {
	eachTree(t, func(t *testing.T, tr int) {
		for _, height := range heights(tr) {
			rnd := rand.New(rand.NewSource(int64(height)))
			for _, changes := range []int{0, 1, 3, 12} {
				s, before := planted(t, tr, height)
				s.ok(s.p.Commit())
				leaves := before.leaves()
				for i := range changes { // Those on the ways to some leaves, the first and the last one too, become fresh.
					leaf := leaves[[]int{0, len(leaves) - 1, rnd.Intn(len(leaves))}[min(i, 2)]]
					s.put(tr, numberOf(leaf.keys[0]), 77)
				}
				root := s.grown(tr, s.p.Root(tr).Page)
				bad := root.pages()
				for _, n := range s.p.Fresh() {
					bad = slices.DeleteFunc(bad, func(b uint32) bool { return b == n })
				}
				s.fall()
				s.broken(tr, root, root.ends(rnd, 5), bad...)
			}
			s, root := planted(t, tr, height)
			s.fall()
			s.broken(tr, root, root.ends(rnd, 3))
		}
	})
}

// numberOf is which key it is.
func numberOf(key []byte) int {
	n := 0
	for _, b := range key {
		n = n<<8 + int(b)
	}
	return n
}

// Pages that were dropped: free again, or deferred.
func TestDropped(t *testing.T) {
	eachTree(t, func(t *testing.T, tr int) {
		for _, committed := range []bool{false, true} {
			for _, height := range heights(tr) {
				s, root := planted(t, tr, height)
				if committed {
					s.ok(s.p.Commit())
				}
				rnd := rand.New(rand.NewSource(int64(height)))
				for _, n := range chosen(root, rnd) {
					m := s.p.Save()
					s.ok(s.p.Drop(n))
					s.broken(tr, root, root.ends(rnd, 2), n)
					s.ok(s.p.Back(m))
				}
			}
		}
	})
}

// nowhere are numbers of pages that no pager tells: supers, the list, free pages, deferred ones, and those that aren't on the disk.
func (s *shelf) nowhere() []uint32 {
	all := []uint32{0, 1, uint32(s.p.Blocks()), uint32(s.p.Blocks() + 1), 1 << 31, math.MaxUint32}
	for _, l := range [][]uint32{s.p.Lists(), s.p.Free(), s.p.Deferred()} {
		all = append(all, l[0], l[len(l)-1])
	}
	return all
}

// Roots, and kids, that are no pages of a tree.
func TestNowhere(t *testing.T) {
	eachTree(t, func(t *testing.T, tr int) {
		s, _ := planted(t, tr, 2)
		s.ok(s.p.Commit())
		s.put(tr, 2, 9)
		root, r := s.grown(tr, s.p.Root(tr).Page), s.p.Root(tr)
		rnd := rand.New(rand.NewSource(1))
		for _, n := range s.nowhere() {
			s.ok(s.p.SetRoot(tr, api.Root{Page: n, Count: r.Count, Height: r.Height}))
			for _, end := range root.ends(rnd, 4) {
				s.tells(tr, nil, end, false, nil)
				s.tells(tr, end, highest(), true, nil)
			}
			s.ok(s.p.SetRoot(tr, r))
			for i := range root.kids {
				was := root.kids[i].page
				root.kids[i].page = n
				s.rewrite(root)
				if n > 1 {
					s.broken(tr, root, root.ends(rnd, 2), n)
				} else { // Such a node isn't right.
					s.broken(tr, root, root.ends(rnd, 2), root.page)
				}
				root.kids[i].page = was
			}
			s.rewrite(root)
		}
		s.broken(tr, root, root.ends(rnd, 2))
	})
}

// rewrite writes an inner node's page anew.
func (s *shelf) rewrite(n *twig) {
	s.Helper()
	body := binary.BigEndian.AppendUint16(nil, uint16(len(n.kids)))
	for _, kid := range n.kids {
		body = binary.BigEndian.AppendUint32(body, kid.page)
	}
	s.ok(s.p.Put(n.page, 4, append(body, slices.Concat(n.keys...)...)))
}

// A pager that is over tells no keys of any tree, nor when its disk is up again.
func TestOver(t *testing.T) {
	s := newShelf(t, 200)
	for tr := range 8 {
		for n := range 30 {
			s.put(tr, n, n)
		}
	}
	s.ok(s.p.Commit())
	s.put(0, 3, 9)
	s.fall()
	if e := s.p.Commit(); e != api.ErrDown {
		t.Fatal(e)
	}
	for range 2 {
		for tr := -1; tr <= 8; tr++ {
			s.tells(tr, nil, highest(), false, nil)
			s.tells(tr, nil, highest(), true, nil)
			s.tells(tr, []byte{0}, []byte{9}, true, nil)
		}
		s.d.Crash(nil)
	}
}

// Trees that aren't right, since pages are nodes of several places: each call ends, however high the tree is said to be.
func TestRound(t *testing.T) {
	eachTree(t, func(t *testing.T, tr int) {
		s, root := planted(t, tr, 2)
		for _, height := range []uint32{0, 1, 2, 3, 50, math.MaxUint32} {
			s.ok(s.p.SetRoot(tr, api.Root{Page: root.page, Count: 4, Height: height}))
			for i := range root.kids {
				was := *root.kids[i]
				for _, n := range []uint32{root.page, root.kids[(i+1)%len(root.kids)].page} {
					root.kids[i] = &twig{page: n}
					s.rewrite(root)
					s.allEnd(tr)
				}
				root.kids[i] = &was
			}
		}
	})
}

// A tree whose inner nodes have the same kid many times, level by level, would have more leaves than can be gone through.
func TestManyWays(t *testing.T) {
	eachTree(t, func(t *testing.T, tr int) {
		s, root := planted(t, tr, 1)
		page := root.page
		for level := range uint32(60) {
			n, e := s.p.Make(4, slices.Concat([]byte{0, 3}, binary.BigEndian.AppendUint32(nil, page), binary.BigEndian.AppendUint32(nil, page), binary.BigEndian.AppendUint32(nil, page), keyOf(tr, 3), keyOf(tr, 4)))
			s.ok(e)
			page = n
			s.ok(s.p.SetRoot(tr, api.Root{Page: page, Count: 4, Height: level + 2}))
			if level%29 == 1 {
				s.allEnd(tr)
			}
		}
	})
}

// allEnd looks whether all ways of asking for a tree that isn't right end.
func (s *shelf) allEnd(tr int) {
	s.Helper()
	ends := [][]byte{nil, keyOf(tr, 3), keyOf(tr, 20), highest()}
	for _, from := range ends {
		for _, to := range ends {
			for _, down := range []bool{false, true} {
				want := byNext(s, Start(s.p, tr, from, to, down))
				s.tells(tr, from, to, down, want)
			}
		}
	}
}

// What a root says of its height and count isn't asked of a tree of nothing.
func TestNothing(t *testing.T) {
	s := newShelf(t, 20)
	for tr := range 8 {
		for _, r := range []api.Root{{}, {Count: 7}, {Height: 3}, {Count: math.MaxUint32, Height: math.MaxUint32}} {
			s.ok(s.p.SetRoot(tr, r))
			for _, from := range edges() {
				for _, to := range edges() {
					s.ask(tr, from, to)
				}
			}
		}
	}
}

// A pager that changes under a cursor, or within a walk: what is told then isn't said, but each call ends.
func TestChangedUnder(t *testing.T) {
	eachTree(t, func(t *testing.T, tr int) {
		for seed := range int64(20) {
			s := newShelf(t, 300)
			rnd := rand.New(rand.NewSource(seed))
			n := countOf(tr, 120)
			for i := range n {
				s.put(tr, i, i)
			}
			s.ok(s.p.Commit())
			change := func() {
				key := keyOf(tr, rnd.Intn(n))
				switch rnd.Intn(8) {
				case 0, 1:
					tree.Cut(s.p, tr, key)
				case 2, 3:
					tree.Put(s.p, tr, key, valueOf(tr, 9))
				case 4:
					s.p.Commit()
				case 5:
					s.p.Abort()
				case 6:
					if pages := s.p.Fresh(); len(pages) > 0 {
						s.p.Put(pages[rnd.Intn(len(pages))], 3, nil)
						s.p.Abort()
					}
				}
			}
			for _, down := range []bool{false, true} {
				c := Start(s.p, tr, nil, highest(), down)
				for range 100000 {
					if _, there := c.Next(); !there {
						break
					}
					change()
				}
				pair, there := c.Next()
				if there {
					t.Fatal("no end")
				}
				s.ended(c, pair)
				for range Walk(s.p, tr, nil, highest(), down) {
					change()
				}
			}
		}
	})
}
