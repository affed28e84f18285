package cursor

import (
	"bytes"
	"math"
	"math/rand"
	"slices"
	"testing"

	"cashbook/api"
	"cashbook/tree"
)

// The chapter's example.
func TestExample(t *testing.T) {
	s := newShelf(t, 20)
	for _, n := range []int{1, 3, 5} {
		s.put(api.TreeMeta, n, n)
	}
	var got []byte
	for _, pair := range List(s.p, api.TreeMeta, []byte{2}, []byte{5}, true, 9) {
		got = append(got, pair.Key...)
	}
	if !bytes.Equal(got, []byte{5, 3}) {
		t.Error(got)
	}
	c := Start(s.p, api.TreeMeta, []byte{2}, []byte{5}, true)
	for _, want := range []byte{5, 3} {
		if pair, there := c.Next(); !there || !bytes.Equal(pair.Key, []byte{want}) || !bytes.Equal(pair.Value, valueOf(api.TreeMeta, int(want))) {
			t.Error(pair, there)
		}
	}
	if pair, there := c.Next(); there || pair.Key != nil || pair.Value != nil {
		t.Error(pair, there)
	}
}

// Trees of nothing, of one key, and of as many as one leaf has: all ranges whose ends are at the keys, about them, or anywhere.
func TestFew(t *testing.T) {
	eachTree(t, func(t *testing.T, tr int) {
		most, _ := mostOf(tr)
		for _, n := range []int{0, 1, 2, 3, most} {
			for _, committed := range []bool{false, true} {
				s := newShelf(t, 20)
				ends := edges()
				for i := range n {
					s.put(tr, 3*i+4, i)
					if i == 0 || i == n-1 {
						ends = append(ends, about(keyOf(tr, 3*i+4))...)
					}
				}
				if h := int(s.p.Root(tr).Height); h != min(n, 1) {
					t.Fatal(h)
				}
				if committed {
					s.ok(s.p.Commit())
				}
				for _, from := range ends {
					for _, to := range ends {
						s.ask(tr, from, to)
					}
				}
			}
		}
	})
}

// tall are numbers of keys that make a tree of a height, if nodes are as small as may be: one leaf, four leaves, or two inner nodes and the leaves below them.
func tall(tr, height int) []int {
	keys, kids := mostOf(tr)
	n := keys / 2
	switch height {
	case 2:
		n *= 4
	case 3:
		n *= 2 * (kids / 2)
	}
	return every(n, 2)
}

// heights are the heights that trees have here: more keys of one byte than 256 aren't there for a third level.
func heights(tr int) []int {
	if tr == api.TreeMeta {
		return []int{1, 2}
	}
	return []int{1, 2, 3}
}

// Trees of one leaf, of several leaves, and of several levels: all ranges that begin and end at a leaf's first or last key, beside one, or between two leaves.
func TestLeaves(t *testing.T) {
	eachTree(t, func(t *testing.T, tr int) {
		for _, height := range heights(tr) {
			for _, how := range []int{small, great, chance} {
				s := newShelf(t, 400)
				s.plant(tr, how, int64(height), tall(tr, height))
				root := s.grown(tr, s.p.Root(tr).Page)
				if how == small && root.height() != height {
					t.Fatal(root.height(), height)
				}
				leaves := root.leaves()
				ends := [][]byte{nil, highest()}
				for i, leaf := range leaves {
					if i < 2 || i > len(leaves)-3 || i == len(leaves)/2 {
						ends = append(ends, about(leaf.keys[0])...)
						ends = append(ends, about(leaf.keys[len(leaf.keys)-1])...)
					}
				}
				rnd := rand.New(rand.NewSource(7))
				for _, from := range ends {
					for _, to := range ends {
						if len(ends) < 30 || rnd.Intn(len(ends)) < 7 {
							s.ask(tr, from, to)
						}
					}
				}
			}
		}
	})
}

// betweens are the keys of all inner nodes.
func betweens(n *twig) [][]byte {
	if len(n.kids) == 0 {
		return nil
	}
	all := slices.Clone(n.keys)
	for _, kid := range n.kids {
		all = append(all, betweens(kid)...)
	}
	return all
}

// The keys of inner nodes, which needn't be keys of the tree: ranges that begin and end at them, and about them, and alone between two.
func TestBetween(t *testing.T) {
	eachTree(t, func(t *testing.T, tr int) {
		for seed := range int64(4) {
			s := newShelf(t, 400)
			height := heights(tr)[len(heights(tr))-1]
			s.plant(tr, chance, seed, tall(tr, height))
			all := betweens(s.grown(tr, s.p.Root(tr).Page))
			for i, key := range all {
				if len(all) > 6 && i%(len(all)/6) != 0 {
					continue
				}
				for _, end := range about(key) {
					s.ask(tr, end, highest())
					s.ask(tr, nil, end)
					s.ask(tr, end, end)
					s.ask(tr, end, about(keyOf(tr, 2))[0])
					for _, other := range about(key) {
						s.ask(tr, end, other)
					}
				}
			}
		}
	})
}

// Trees as Puts and Cuts leave them, in many orders, behind commits and ahead of them.
func TestBehindChanges(t *testing.T) {
	eachTree(t, func(t *testing.T, tr int) {
		rnd := rand.New(rand.NewSource(int64(tr)))
		s := newShelf(t, 300)
		n := countOf(tr, 320)
		some := func(often int) {
			for range often {
				from, to := about(keyOf(tr, rnd.Intn(n))), about(keyOf(tr, rnd.Intn(n)))
				s.ask(tr, from[rnd.Intn(len(from))], to[rnd.Intn(len(to))])
			}
			s.ask(tr, nil, highest())
		}
		for round := range 2 {
			for i, at := range rnd.Perm(n) {
				s.put(tr, at, i+round)
				if i%(n/8) == 0 {
					some(6)
				}
				if i%(n/5) == 0 {
					s.ok(s.p.Commit())
				}
			}
			if h := s.p.Root(tr).Height; h < 2 {
				t.Fatal(h)
			}
			for i, at := range rnd.Perm(n) {
				s.cut(tr, at)
				if i%(n/8) == 0 {
					some(6)
				}
				if i%(n/5) == 0 {
					s.ok(s.p.Commit())
				}
			}
			some(3)
		}
	})
}

// Trees that aren't there have no keys.
func TestNoTree(t *testing.T) {
	s := newShelf(t, 40)
	for tr := range 8 {
		for n := range 9 {
			s.put(tr, n, n)
		}
	}
	for _, committed := range []bool{false, true} {
		if committed {
			s.ok(s.p.Commit())
		}
		for _, tr := range []int{-1, 8, 9, -8, 1 << 32, math.MinInt, math.MaxInt} {
			for _, from := range edges() {
				for _, to := range edges() {
					s.tells(tr, from, to, false, nil)
					s.tells(tr, from, to, true, nil)
				}
			}
			for _, most := range []int{math.MinInt, -1, 0, 1, math.MaxInt} {
				if l := List(s.p, tr, nil, highest(), false, most); len(l) != 0 {
					t.Error(l)
				}
			}
		}
	}
}

// A List has at most so many: none, fewer than there are, just as many, more, and below 0 none.
func TestMost(t *testing.T) {
	eachTree(t, func(t *testing.T, tr int) {
		for _, height := range append(heights(tr), 0) {
			s := newShelf(t, 400)
			if height > 0 {
				s.plant(tr, small, 1, tall(tr, height))
			}
			n := len(s.has[tr])
			for _, from := range [][]byte{nil, keyOf(tr, 5), keyOf(tr, n), highest()} {
				for _, to := range [][]byte{highest(), keyOf(tr, n+1), keyOf(tr, 2), nil} {
					for _, down := range []bool{false, true} {
						all := s.rangeOf(tr, from, to, down)
						for _, most := range []int{math.MinInt, -len(all), -2, -1, 0, 1, 2, 3, len(all) / 2, len(all) - 1, len(all), len(all) + 1, 2 * len(all), math.MaxInt} {
							want := all[:max(0, min(most, len(all)))]
							if got := List(s.p, tr, from, to, down, most); !alike(got, want) {
								t.Fatalf("from %x to %x, down %v, most %d: %x, and should be %x", from, to, down, most, got, want)
							}
						}
					}
				}
			}
		}
	})
}

// A Walk that is stopped at each place has told just so many, and asks no more; begun anew, it tells all from the beginning.
func TestStopped(t *testing.T) {
	eachTree(t, func(t *testing.T, tr int) {
		for _, height := range heights(tr) {
			s := newShelf(t, 400)
			s.plant(tr, chance, 2, tall(tr, height))
			n := len(s.has[tr])
			for _, down := range []bool{false, true} {
				from, to := keyOf(tr, 3), keyOf(tr, min(2*n, 250))
				want, walk := s.rangeOf(tr, from, to, down), Walk(s.p, tr, from, to, down)
				for stop := range len(want) {
					if len(want) > 40 && stop > 6 && stop < len(want)-6 && stop%9 != 0 {
						continue
					}
					var got []Pair
					walk(func(k, v []byte) bool {
						got = append(got, Pair{k, v})
						return len(got) <= stop
					})
					if !alike(got, want[:stop+1]) {
						t.Fatalf("stopped at %d: %x, and should be %x", stop, got, want)
					}
				}
				if got := byWalk(walk); !alike(got, want) {
					t.Fatalf("anew: %x, and should be %x", got, want)
				}
			}
		}
	})
}

// A Walk that isn't under way is of the tree as it is when it is begun.
func TestWalkBegins(t *testing.T) {
	eachTree(t, func(t *testing.T, tr int) {
		s := newShelf(t, 200)
		var walks []func(func([]byte, []byte) bool)
		from, to := keyOf(tr, 2), keyOf(tr, 100)
		for _, down := range []bool{false, true} {
			walks = append(walks, Walk(s.p, tr, from, to, down))
		}
		look := func() {
			t.Helper()
			for i, walk := range walks {
				if got, want := byWalk(walk), s.rangeOf(tr, from, to, i == 1); !alike(got, want) {
					t.Fatalf("%x, and should be %x", got, want)
				}
			}
		}
		for n := range 110 {
			look()
			s.put(tr, n, n)
		}
		s.ok(s.p.Commit())
		look()
		for n := range 110 {
			s.cut(tr, 109-n)
			look()
		}
		s.p.Abort()
		for n := range 110 {
			s.has[tr][string(keyOf(tr, n))] = string(valueOf(tr, n))
		}
		look()
	})
}

// Down is up the other way about.
func TestTurned(t *testing.T) {
	eachTree(t, func(t *testing.T, tr int) {
		s := newShelf(t, 400)
		n := countOf(tr, 300)
		rnd := rand.New(rand.NewSource(5))
		for _, at := range rnd.Perm(n) {
			s.put(tr, at, at)
		}
		for range 200 {
			from, to := keyOf(tr, rnd.Intn(n)), keyOf(tr, rnd.Intn(n))
			up, down := List(s.p, tr, from, to, false, n), List(s.p, tr, from, to, true, n)
			slices.Reverse(down)
			if !alike(up, down) || bytes.Compare(from, to) <= 0 == (len(up) == 0) {
				t.Fatalf("from %x to %x: %x, and the other way about %x", from, to, up, down)
			}
		}
	})
}

// beside is a cursor under way, and what it should still tell.
type beside struct {
	c    *Cursor
	want []Pair
}

// Cursors beside one another, of the same tree and of others, and of ranges that meet: each tells its own.
func TestBeside(t *testing.T) {
	s := newShelf(t, 1200)
	rnd := rand.New(rand.NewSource(1))
	for tr := range 8 {
		for n := range countOf(tr, 150) {
			s.put(tr, n, n+tr)
		}
	}
	var all []*beside
	for i := range 80 {
		tr, down := i%3*(i%8)%8, rnd.Intn(2) == 0
		from, to := keyOf(tr, rnd.Intn(80)), keyOf(tr, 50+rnd.Intn(100))
		all = append(all, &beside{Start(s.p, tr, from, to, down), s.rangeOf(tr, from, to, down)})
	}
	for len(all) > 0 {
		i := rnd.Intn(len(all))
		b := all[i]
		pair, there := b.c.Next()
		if there != (len(b.want) > 0) || there && !alike([]Pair{pair}, b.want[:1]) {
			t.Fatalf("%x %v, and should be of %x", pair, there, b.want)
		}
		if !there {
			s.ended(b.c, pair)
			all = slices.Delete(all, i, i+1)
			continue
		}
		b.want = b.want[1:]
	}
}

// Walks within walks, also the same one.
func TestWithin(t *testing.T) {
	eachTree(t, func(t *testing.T, tr int) {
		s := newShelf(t, 100)
		for n := range 25 {
			s.put(tr, n, n)
		}
		up := Walk(s.p, tr, keyOf(tr, 2), keyOf(tr, 20), false)
		down := Walk(s.p, tr, keyOf(tr, 7), keyOf(tr, 23), true)
		at := 2
		for k := range up {
			if !bytes.Equal(k, keyOf(tr, at)) {
				t.Fatal(k, at)
			}
			at++
			if got := byWalk(up); !alike(got, s.rangeOf(tr, keyOf(tr, 2), keyOf(tr, 20), false)) {
				t.Fatalf("%x", got)
			}
			if got := byWalk(down); !alike(got, s.rangeOf(tr, keyOf(tr, 7), keyOf(tr, 23), true)) {
				t.Fatalf("%x", got)
			}
			if l := List(s.p, tr, k, highest(), false, 1); len(l) != 1 || !bytes.Equal(l[0].Key, k) {
				t.Fatalf("%x", l)
			}
		}
		if at != 21 {
			t.Error(at)
		}
	})
}

// One tree's keys aren't another one's.
func TestOthers(t *testing.T) {
	s := newShelf(t, 400)
	for tr := range 8 {
		for n := range 40 {
			s.put(tr, n*8%251+tr%4, n+tr)
		}
		for other := range 8 {
			s.ask(other, nil, highest())
		}
	}
	for tr := range 8 {
		for n := range 256 {
			s.cut(tr, n)
		}
		for other := range 8 {
			s.ask(other, nil, highest())
		}
	}
}

// Each key of a tree is a range of its own, and told with the value that tree tells of it.
func TestEachKey(t *testing.T) {
	eachTree(t, func(t *testing.T, tr int) {
		s := newShelf(t, 300)
		s.plant(tr, chance, 9, every(countOf(tr, 200), 1))
		for n := range 255 {
			for _, down := range []bool{false, true} {
				key := keyOf(tr, n)
				value, e := tree.Get(s.p, tr, key)
				l := List(s.p, tr, key, key, down, 2)
				if len(l) != 0 != (e == api.OK) || len(l) > 1 || len(l) == 1 && (!bytes.Equal(l[0].Key, key) || !bytes.Equal(l[0].Value, value)) {
					t.Fatalf("%x: %x, and should be %x", key, l, value)
				}
			}
		}
	})
}
