package tree

import (
	"math"
	"slices"
	"testing"

	"cashbook/api"
	"cashbook/page"
)

// calls are Get, Put and Cut, each with the error that it answered alone.
func calls(b *book, t int, key, value []byte) map[string]func() api.Errno {
	return map[string]func() api.Errno{
		"Get": func() api.Errno {
			got, e := Get(b.p, t, key)
			if e != api.OK && got != nil {
				b.Errorf("%x beside %d", got, e)
			}
			return e
		},
		"Put": func() api.Errno { return Put(b.p, t, key, value) },
		"Cut": func() api.Errno { return Cut(b.p, t, key) },
	}
}

// all asks Get, Put and Cut for the same, each of which should answer an error, and leave all as it was.
func (b *book) all(t int, key, value []byte, want api.Errno) {
	b.Helper()
	for name, call := range calls(b, t, key, value) {
		b.one(name, call, want)
	}
}

// one asks for one call, which should answer an error, and leave all as it was.
func (b *book) one(name string, call func() api.Errno, want api.Errno) {
	b.Helper()
	was := snap(b.p)
	if e := call(); e != want {
		b.Errorf("%s: %d, and should be %d", name, e, want)
	}
	if snap(b.p) != was {
		b.Errorf("%s: behind %d all isn't as it was", name, want)
	}
}

// wrongTrees are trees that aren't there.
func wrongTrees() []int { return []int{-1, 8, 9, -8, math.MinInt, math.MaxInt, 1 << 32} }

// Trees that aren't there are ErrRange, whatever else is wrong; keys and values of a wrong length are ErrArg.
func TestArguments(t *testing.T) {
	for _, state := range []string{"empty", "some", "full", "down", "over"} {
		b := newBook(t, 40)
		for tree := range 8 {
			for n := range 2 * min(tree, 2) {
				if state != "empty" {
					b.put(tree, keyOf(tree, n), valueOf(tree, n))
				}
			}
		}
		b.commit()
		switch state {
		case "full":
			b.eat(0)
		case "down":
			b.fall()
		case "over":
			b.fall()
			b.p.SetRoot(0, api.Root{Page: 2})
			b.p.Commit()
		}
		for _, tree := range wrongTrees() {
			for _, key := range [][]byte{nil, {}, {1}, keyOf(0, 1), keyOf(4, 1), make([]byte, 30)} {
				b.all(tree, key, nil, api.ErrRange)
				b.all(tree, key, valueOf(0, 1), api.ErrRange)
			}
		}
		for tree := range 8 {
			for n := range 3 {
				key, value := keyOf(tree, n), valueOf(tree, n)
				long := append(slices.Clone(key), 0)
				for _, k := range [][]byte{nil, {}, key[1:], key[:len(key)-1], long, make([]byte, 100)} {
					b.all(tree, k, value, api.ErrArg)
					b.all(tree, k, nil, api.ErrArg)
				}
				for _, v := range [][]byte{nil, {}, value[1:], append(slices.Clone(value), 0), make([]byte, 600)} {
					b.one("Put", calls(b, tree, key, v)["Put"], api.ErrArg)
				}
			}
		}
	}
}

// fall lets the disk fall.
func (b *book) fall() {
	b.Helper()
	b.d.Fuse(0)
	if e := b.d.Sync(); e != api.ErrDown || !b.d.Down() {
		b.Fatal(e)
	}
}

// A disk that is down, and a tree of nothing: no page is read.
func TestDownNothing(t *testing.T) {
	eachTree(t, func(t *testing.T, tree int) {
		b := newBook(t, 40)
		b.fall()
		key, value := keyOf(tree, 1), valueOf(tree, 1)
		b.one("Get", calls(b, tree, key, value)["Get"], api.ErrNone)
		b.one("Cut", calls(b, tree, key, value)["Cut"], api.ErrNone)
		for n := range 60 {
			if e := b.put(tree, keyOf(tree, n), valueOf(tree, n)); e != api.OK {
				t.Fatal(e)
			}
		}
		for n := range 60 {
			if e := b.cut(tree, keyOf(tree, n)); e != api.OK {
				t.Fatal(e)
			}
		}
		b.checkAll()
	})
}

// A disk that is down, and a tree whose pages are on it.
func TestDownInUse(t *testing.T) {
	eachTree(t, func(t *testing.T, tree int) {
		for height := 1; height <= 3; height++ {
			if tree == api.TreeMeta && height == 3 {
				continue
			}
			b := newBook(t, 400)
			b.build(tree, height, 3, 1, smallest(tree, height, 2))
			b.commit()
			b.fall()
			for n := range 12 {
				b.all(tree, keyOf(tree, n), valueOf(tree, n), api.ErrDown)
			}
			other := (tree + 1) % 8
			if e := Put(b.p, other, keyOf(other, 1), valueOf(other, 1)); e != api.OK {
				t.Error(e)
			}
		}
	})
}

// A disk that falls when the nodes on the way are fresh, but not those beside them: what is on the way can be told, and changed, so far as nothing else is needed.
func TestDownBeside(t *testing.T) {
	eachTree(t, func(t *testing.T, tree int) {
		for height := 2; height <= 3; height++ {
			if tree == api.TreeMeta && height == 3 {
				continue
			}
			for _, at := range []int{0, 1} {
				b := newBook(t, 400)
				b.build(tree, height, 3, 1, smallest(tree, height, 2))
				b.commit()
				first := b.firstOf(tree, []int{at, at, at})
				other := keyOf(tree, numberOf(first)+1)
				beside := b.firstOf(tree, []int{at, 1 - at, 1 - at})
				if height == 2 {
					beside = b.firstOf(tree, []int{1 - at})
				}
				far := b.firstOf(tree, []int{1 - at, 0, 0})
				b.put(tree, first, valueOf(tree, 5))
				if height == 3 { // The leaf beside is fresh, too, and the inner node beside isn't.
					b.put(tree, beside, valueOf(tree, 6))
				}
				b.fall()
				b.one("Cut", calls(b, tree, first, nil)["Cut"], api.ErrDown)
				b.one("Cut", calls(b, tree, other, nil)["Cut"], api.ErrNone)
				b.one("Get", calls(b, tree, other, nil)["Get"], api.ErrNone)
				if got, e := Get(b.p, tree, first); e != api.OK || !slices.Equal(got, valueOf(tree, 5)) {
					t.Error(got, e)
				}
				b.all(tree, far, valueOf(tree, 1), api.ErrDown)
				if e := Put(b.p, tree, other, valueOf(tree, 7)); e != api.OK {
					t.Error(e)
				}
				// Now there is one more than need be.
				if e := Cut(b.p, tree, first); e != api.OK {
					t.Error(e)
				}
			}
		}
	})
}

// A pager that is over tells no roots, and answers ErrDown: of each tree, also of one of nothing.
func TestOver(t *testing.T) {
	for _, empty := range []bool{true, false} {
		b := newBook(t, 60)
		for tree := range 8 {
			if !empty {
				b.put(tree, keyOf(tree, 1), valueOf(tree, 1))
			}
		}
		b.commit()
		b.fall()
		b.p.SetRoot(0, api.Root{Page: 3, Count: 3, Height: 1})
		if e := b.p.Commit(); e != api.ErrDown {
			t.Fatal(e)
		}
		for tree := range 8 {
			for n := range 3 {
				b.all(tree, keyOf(tree, n), valueOf(tree, n), api.ErrDown)
			}
		}
		// It stays over, when the disk is up again.
		b.d.Crash(nil)
		for tree := range 8 {
			b.all(tree, keyOf(tree, 1), valueOf(tree, 1), api.ErrDown)
		}
	}
}

// wrong is a way in which a page isn't a right node.
type wrong struct {
	name string
	kind byte
	body []byte
}

// wrongs are ways in which a page that was a node isn't a right one any more.
func wrongs(tree int, n plain) []wrong {
	kind, body := bodyOf(n)
	all := []wrong{{"no body", kind, nil}, {"a byte", kind, body[:1]}, {"a count alone", kind, body[:2]}, {"a byte fewer", kind, body[:len(body)-1]}}
	if len(body) < 500 {
		all = append(all, wrong{"a byte more", kind, append(slices.Clone(body), 0)})
	}
	for _, k := range []byte{0, 1, 2, 5, 255, 7 - kind} {
		all = append(all, wrong{"the kind", k, body})
	}
	for _, add := range []int{-1, 1, 255} {
		b := slices.Clone(body)
		b[1] += byte(add)
		all = append(all, wrong{"the count", kind, b})
	}
	add := func(name string, change func(n *plain)) {
		c := plain{leaf: n.leaf, keys: slices.Clone(n.keys), values: slices.Clone(n.values), kids: slices.Clone(n.kids)}
		change(&c)
		kind, body := bodyOf(c)
		all = append(all, wrong{name, kind, body})
	}
	if len(n.keys) > 1 {
		add("keys that fall", func(n *plain) { slices.Reverse(n.keys) })
		add("keys that are the same", func(n *plain) { n.keys[1] = n.keys[0] })
	}
	if !n.leaf {
		for _, page := range []uint32{0, 1} {
			add("a kid that is no page", func(n *plain) { n.kids[len(n.kids)-1] = page })
		}
		add("one kid", func(n *plain) { n.kids, n.keys = n.kids[:1], nil })
		add("a right leaf", func(n *plain) {
			*n = plain{leaf: true, keys: [][]byte{keyOf(tree, 1)}, values: [][]byte{valueOf(tree, 1)}}
		})
	} else {
		add("no key", func(n *plain) { n.keys, n.values = nil, nil })
		add("a right inner node", func(n *plain) { *n = plain{keys: [][]byte{keyOf(tree, 1)}, kids: []uint32{5, 6}} })
	}
	return all
}

// pageAt is the page that the places lead to, and its node.
func (b *book) pageAt(tree int, places []int) (uint32, plain) {
	b.Helper()
	n := b.p.Root(tree).Page
	for i := 0; ; i++ {
		kind, body, e := b.p.Read(n)
		at, err := plainOf(tree, kind, body)
		if e != api.OK || err != nil {
			b.Fatal(e, err)
		}
		if i == len(places) {
			return n, at
		}
		n = at.kids[places[i]]
	}
}

// spoiled asks for calls once for each way in which a page, which is fresh, isn't a right node.
func (b *book) spoiled(tree int, places []int, names []string, key []byte) {
	b.Helper()
	page, n := b.pageAt(tree, places)
	for _, w := range wrongs(tree, n) {
		b.aside(func() {
			if e := b.p.Put(page, w.kind, w.body); e != api.OK {
				b.Fatal(e)
			}
			for _, name := range names {
				b.one(w.name+", "+name, calls(b, tree, key, valueOf(tree, 3))[name], api.ErrForm)
			}
		})
	}
}

// A page on the way that isn't a right node, at each level: Get, Put and Cut are ErrForm, and leave all as it was. Other ways aren't touched.
func TestWrongOnTheWay(t *testing.T) {
	eachTree(t, func(t *testing.T, tree int) {
		for height := 1; height <= 3; height++ {
			if tree == api.TreeMeta && height == 3 {
				continue
			}
			for _, at := range []int{0, 1} {
				b := newBook(t, 80)
				b.build(tree, height, 2, 1, smallest(tree, height, 2))
				places := slices.Repeat([]int{at}, height-1)
				for level := range height {
					first := b.firstOf(tree, places)
					for _, key := range [][]byte{first, keyOf(tree, numberOf(first)+1)} {
						b.spoiled(tree, places[:level], []string{"Get", "Put", "Cut"}, key)
					}
				}
				b.checkAll()
			}
		}
	})
}

// A page beside the way that isn't a right node: a Cut that needs it is ErrForm, and leaves all as it was, though it has made pages for lower levels; all that doesn't need it is done.
func TestWrongBeside(t *testing.T) {
	eachTree(t, func(t *testing.T, tree int) {
		for height := 2; height <= 3; height++ {
			if tree == api.TreeMeta && height == 3 {
				continue
			}
			for _, committed := range []bool{false, true} {
				for _, at := range []int{0, 1} {
					b := newBook(t, 160)
					b.build(tree, height, 2, 1, smallest(tree, height, 2))
					places := slices.Repeat([]int{at}, height-1)
					first := b.firstOf(tree, places)
					for level := 1; level < height; level++ {
						beside := slices.Clone(places[:level])
						beside[level-1] = 1 - at
						if committed {
							b.commit()
							b.freshenOne(tree, beside)
						}
						b.spoiled(tree, beside, []string{"Cut"}, first)
						page, n := b.pageAt(tree, beside)
						b.aside(func() {
							w := wrongs(tree, n)[0]
							b.p.Put(page, w.kind, w.body)
							if _, e := Get(b.p, tree, first); e != api.OK {
								t.Error(e)
							}
							if e := Put(b.p, tree, first, valueOf(tree, 3)); e != api.OK {
								t.Error(e)
							}
							if e := Put(b.p, tree, keyOf(tree, numberOf(first)+1), valueOf(tree, 3)); e != api.OK {
								t.Error(e)
							}
							if e := Cut(b.p, tree, first); e != api.OK {
								t.Error(e)
							}
						})
					}
					b.checkAll()
				}
			}
		}
	})
}

// freshenOne makes a page fresh, and no other one but those above it.
func (b *book) freshenOne(tree int, places []int) {
	b.Helper()
	path := slices.Concat(places, []int{0, 0, 0})
	first := b.firstOf(tree, path)
	b.put(tree, first, valueOf(tree, 77))
}

// Pages in use that aren't right nodes, since what the disk says isn't a page, or another one.
func TestWrongOnDisk(t *testing.T) {
	eachTree(t, func(t *testing.T, tree int) {
		b := newBook(t, 80)
		b.build(tree, 2, 2, 1, smallest(tree, 2, 2))
		b.commit()
		first := b.firstOf(tree, []int{1})
		for level := range 2 {
			n, _ := b.pageAt(tree, []int{1}[:level])
			was, e := b.d.Read(int(n))
			if e != api.OK {
				t.Fatal(e)
			}
			kind, body, _ := b.p.Read(n)
			other, _ := page.Seal(n+1, kind, body)
			turned := slices.Clone(was)
			turned[20] ^= 1
			long, _ := page.Seal(n, kind, append(slices.Clone(body), 9))
			for i, block := range [][]byte{make([]byte, 512), other, turned, long} {
				if e := b.d.Write(int(n), block); e != api.OK {
					t.Fatal(e)
				}
				b.all(tree, first, valueOf(tree, i), api.ErrForm)
			}
			if level == 1 { // Beside the way of another key.
				b.one("Cut", calls(b, tree, b.firstOf(tree, []int{0}), nil)["Cut"], api.ErrForm)
			}
			b.d.Write(int(n), was)
			b.checkAll()
		}
	})
}

// Roots and kids that aren't pages of trees: free, deferred, the list's, no pages of the disk, or at the wrong level.
func TestWrongPages(t *testing.T) {
	eachTree(t, func(t *testing.T, tree int) {
		b := newBook(t, 80)
		b.build(tree, 2, 2, 1, smallest(tree, 2, 2))
		b.commit()
		b.put(tree, b.firstOf(tree, []int{0}), valueOf(tree, 1))
		key, r := b.firstOf(tree, []int{1}), b.p.Root(tree)
		pages := []uint32{1, 80, 81, 1 << 31, math.MaxUint32, b.p.Free()[0], b.p.Deferred()[0], b.p.Lists()[0]}
		for _, n := range pages {
			b.aside(func() {
				b.p.SetRoot(tree, api.Root{Page: n, Count: r.Count, Height: r.Height})
				b.all(tree, key, valueOf(tree, 1), api.ErrForm)
			})
			b.aside(func() {
				page, at := b.pageAt(tree, nil)
				at.kids[1] = n
				kind, body := bodyOf(at)
				b.p.Put(page, kind, body)
				b.all(tree, key, valueOf(tree, 1), api.ErrForm)
				b.one("Cut", calls(b, tree, b.firstOf(tree, []int{0}), nil)["Cut"], api.ErrForm)
			})
		}
		for _, height := range []uint32{0, 1, 3, 4, math.MaxUint32} {
			b.aside(func() {
				b.p.SetRoot(tree, api.Root{Page: r.Page, Count: r.Count, Height: height})
				b.all(tree, key, valueOf(tree, 1), api.ErrForm)
			})
		}
		for _, height := range []uint32{0, 2, 3, math.MaxUint32} {
			b.aside(func() {
				page, _ := b.pageAt(tree, []int{1})
				b.p.SetRoot(tree, api.Root{Page: page, Count: r.Count, Height: height})
				b.all(tree, key, valueOf(tree, 1), api.ErrForm)
			})
		}
		b.checkAll()
	})
}

// A page that is a node of two places: the way down goes round, or the node beside is the same one.
func TestTwice(t *testing.T) {
	eachTree(t, func(t *testing.T, tree int) {
		b := newBook(t, 80)
		b.build(tree, 2, 2, 1, smallest(tree, 2, 2))
		page, n := b.pageAt(tree, nil)
		first := b.firstOf(tree, []int{0})
		write := func(kids ...uint32) {
			kind, body := bodyOf(plain{keys: n.keys[:1], kids: kids})
			if e := b.p.Put(page, kind, body); e != api.OK {
				t.Fatal(e)
			}
		}
		for _, height := range []uint32{2, 3, 1 << 20, math.MaxUint32} {
			b.p.SetRoot(tree, api.Root{Page: page, Count: 9, Height: height})
			write(page, page)
			b.all(tree, first, valueOf(tree, 1), api.ErrForm)
		}
		b.p.SetRoot(tree, api.Root{Page: page, Count: 9, Height: 2})
		write(n.kids[0], n.kids[0])
		b.one("Cut", calls(b, tree, first, nil)["Cut"], api.ErrForm)
		write(n.kids[0], page)
		b.one("Cut", calls(b, tree, first, nil)["Cut"], api.ErrForm)
	})
}

// Nodes that are right, but whose keys aren't where the node above says: what is made of them isn't a right node, and is not laid.
func TestKeysElsewhere(t *testing.T) {
	eachTree(t, func(t *testing.T, tree int) {
		for _, committed := range []bool{false, true} {
			b := newBook(t, 80)
			b.build(tree, 2, 2, 1, smallest(tree, 2, 2))
			page, n := b.pageAt(tree, nil)
			kind, body := bodyOf(plain{keys: [][]byte{keyOf(tree, 0)}, kids: []uint32{n.kids[1], n.kids[0]}})
			if e := b.p.Put(page, kind, body); e != api.OK {
				t.Fatal(e)
			}
			if committed {
				if e := b.p.Commit(); e != api.OK {
					t.Fatal(e)
				}
			}
			key := keyOf(tree, 2)
			if _, e := Get(b.p, tree, key); e != api.OK {
				t.Fatal(e)
			}
			b.one("Cut", calls(b, tree, key, nil)["Cut"], api.ErrForm)
		}
	})
}

// ErrNone stands ahead of ErrFull.
func TestNoneAheadOfFull(t *testing.T) {
	for tree := range 8 {
		b := newBook(t, 40)
		b.put(tree, keyOf(tree, 1), valueOf(tree, 1))
		b.put(tree, keyOf(tree, 3), valueOf(tree, 3))
		b.commit()
		b.eat(0)
		b.one("Cut", calls(b, tree, keyOf(tree, 2), nil)["Cut"], api.ErrNone)
		b.one("Cut", calls(b, tree, keyOf(tree, 1), nil)["Cut"], api.ErrFull)
		b.one("Put", calls(b, tree, keyOf(tree, 2), valueOf(tree, 1))["Put"], api.ErrFull)
		b.one("Put", calls(b, tree, keyOf(tree, 1), valueOf(tree, 2))["Put"], api.ErrFull)
		b.get(tree, keyOf(tree, 1))
	}
}

// What a root without a page says beside isn't asked: there is nothing.
func TestNothing(t *testing.T) {
	for tree := range 8 {
		for _, r := range []api.Root{{}, {Count: 7}, {Height: 3}, {Count: math.MaxUint32, Height: math.MaxUint32}} {
			b := newBook(t, 40)
			b.p.SetRoot(tree, r)
			b.one("Get", calls(b, tree, keyOf(tree, 1), nil)["Get"], api.ErrNone)
			b.one("Cut", calls(b, tree, keyOf(tree, 1), nil)["Cut"], api.ErrNone)
			if e := Put(b.p, tree, keyOf(tree, 1), valueOf(tree, 1)); e != api.OK {
				t.Error(e)
			}
			b.now[tree][string(keyOf(tree, 1))] = string(valueOf(tree, 1))
			b.checkAll()
		}
	}
}
