package tree

import (
	"fmt"
	"maps"
	"math"
	"math/rand"
	"slices"
	"testing"

	"cashbook/api"
)

// eachTree runs a test of each tree.
func eachTree(t *testing.T, test func(t *testing.T, tree int)) {
	for tree := range 8 {
		t.Run(fmt.Sprint(tree), func(t *testing.T) {
			t.Parallel()
			test(t, tree)
		})
	}
}

func TestShape(t *testing.T) {
	for tree := range 8 {
		k, v := sizes(tree)
		if gk, gv := Shape(tree); gk != k || gv != v {
			t.Error(tree, gk, gv)
		}
	}
	for _, tree := range []int{-1, 8, -8, 9, math.MinInt, math.MaxInt, 1 << 32, -1 << 32, 1<<32 + 1} {
		if k, v := Shape(tree); k != 0 || v != 0 {
			t.Error(tree, k, v)
		}
	}
}

// The chapter's examples.
func TestExamples(t *testing.T) {
	b := newBook(t, 20)
	b.put(api.TreeAccounts, keyOf(0, 1), valueOf(0, 1))
	r := b.p.Root(0)
	if r != (api.Root{Page: r.Page, Count: 1, Height: 1}) || r.Page < 2 {
		t.Error(r)
	}
	if kind, _, e := b.p.Read(r.Page); kind != api.KindLeaf || e != api.OK {
		t.Error(kind, e)
	}
	for n := 2; n <= 5; n++ {
		if h := b.p.Root(0).Height; h != 1 {
			t.Error(n, h)
		}
		b.put(api.TreeAccounts, keyOf(0, n), valueOf(0, n))
	}
	if r := b.p.Root(0); r.Count != 5 || r.Height != 2 {
		t.Error(r)
	}
	b.checkAll()
}

// Trees of none, of one key, of as many as a leaf's cap, and of one more; and back again.
func TestLeaves(t *testing.T) {
	eachTree(t, func(t *testing.T, tree int) {
		most, _ := capsOf(tree)
		for _, commits := range []bool{false, true} {
			b := newBook(t, 20)
			settle := func(count, height uint32) {
				t.Helper()
				if commits {
					b.commit()
				}
				b.checkAll()
				if r := b.p.Root(tree); r.Count != count || r.Height != height || (r.Page == 0) != (count == 0) {
					t.Fatal(r, count, height)
				}
			}
			settle(0, 0)
			b.get(tree, keyOf(tree, 3))
			if e := b.cut(tree, keyOf(tree, 3)); e != api.ErrNone {
				t.Error(e)
			}
			for n := range most {
				b.put(tree, keyOf(tree, n), valueOf(tree, n))
				settle(uint32(n+1), 1)
			}
			if len(used(b.p)) != 1 {
				t.Error(used(b.p))
			}
			b.put(tree, keyOf(tree, most), valueOf(tree, most))
			settle(uint32(most+1), 2)
			if len(used(b.p)) != 3 {
				t.Error(used(b.p))
			}
			for n := most; n >= 0; n-- {
				b.cut(tree, keyOf(tree, n))
				height := b.p.Root(tree).Height
				switch {
				case n == 0:
					height = 0
				case n < most/2*2: // too few for two leaves
					height = 1
				}
				settle(uint32(n), height)
			}
			if len(used(b.p)) != 0 {
				t.Error(used(b.p))
			}
		}
	})
}

// orders are the orders in which numbers from 0 are put or cut.
func orders(n int) map[string][]int {
	rising := make([]int, n)
	for i := range rising {
		rising[i] = i
	}
	falling := slices.Clone(rising)
	slices.Reverse(falling)
	return map[string][]int{"rising": rising, "falling": falling, "any": rand.New(rand.NewSource(int64(n))).Perm(n)}
}

// manyOf are as many keys as make a tree three levels high in any order, or all the keys that there are.
func manyOf(tree int) int {
	keys, kids := capsOf(tree)
	if tree == api.TreeMeta {
		return 256
	}
	return keys*kids + 1
}

// inOrders puts and cuts keys in two orders, with a commit now and then.
func inOrders(t *testing.T, tree int, in, out []int, often int) {
	top, r := uint32(3), rand.New(rand.NewSource(int64(often)))
	if tree == api.TreeMeta {
		top = 2
	}
	b := newBook(t, 130)
	was := uint32(0)
	step := func(i int) {
		t.Helper()
		h := b.p.Root(tree).Height
		if h > was+1 || h+1 < was {
			t.Fatalf("height %d behind %d", h, was)
		}
		was = h
		if r.Intn(often) == 0 {
			b.commit()
		}
		if i%16 == 0 {
			b.checkAll()
		}
	}
	for i, k := range in {
		if e := b.put(tree, keyOf(tree, k), valueOf(tree, k)); e != api.OK {
			t.Fatal(e)
		}
		step(i)
	}
	if was != top || int(b.p.Root(tree).Count) != len(in) {
		t.Fatal(b.p.Root(tree))
	}
	for i, k := range out {
		if e := b.cut(tree, keyOf(tree, k)); e != api.OK {
			t.Fatal(e)
		}
		step(i)
	}
	if r := b.p.Root(tree); r != (api.Root{}) {
		t.Fatal(r)
	}
	b.commit()
	b.checkAll()
	if len(b.p.Free())+len(b.p.Lists()) != 128 {
		t.Error(b.p.Free(), b.p.Lists())
	}
}

// Keys put and cut in each order, with and without commits among them: behind each call all is as the chapter says; heights go from 0 to 3 and back.
func TestOrders(t *testing.T) {
	eachTree(t, func(t *testing.T, tree int) {
		all := orders(manyOf(tree))
		often := []int{1, 7, 1 << 30}
		for i, in := range slices.Sorted(maps.Keys(all)) {
			for j, out := range slices.Sorted(maps.Keys(all)) {
				t.Run(in+out, func(t *testing.T) {
					t.Parallel()
					inOrders(t, tree, all[in], all[out], often[(tree+i+j)%3])
				})
			}
		}
	})
}

// Keys that are there, put anew, have the new value, and nothing else changes; those that aren't there are told of neither by Get nor by Cut.
func TestAnew(t *testing.T) {
	eachTree(t, func(t *testing.T, tree int) {
		b := newBook(t, 400)
		n := min(manyOf(tree), 127)
		for _, i := range orders(n)["any"] {
			b.put(tree, keyOf(tree, 2*i+1), valueOf(tree, i))
		}
		for _, committed := range []bool{false, true, false} {
			if committed {
				b.commit()
			}
			for i := range n {
				was, pages := b.p.Root(tree), len(used(b.p))
				if e := b.put(tree, keyOf(tree, 2*i+1), valueOf(tree, i+100)); e != api.OK {
					t.Fatal(e)
				}
				if now := b.p.Root(tree); now.Count != was.Count || now.Height != was.Height || len(used(b.p)) != pages {
					t.Fatal(was, now)
				}
				for _, k := range []int{2 * i, 2*i + 2} {
					if k > 255 && tree == api.TreeMeta {
						continue
					}
					b.get(tree, keyOf(tree, k))
					if e := b.cut(tree, keyOf(tree, k)); e != api.ErrNone {
						t.Fatal(e)
					}
				}
			}
			b.checkAll()
		}
	})
}

// Keys that differ in one byte alone, at each place, and those of bytes 0 and 255.
func TestKeys(t *testing.T) {
	eachTree(t, func(t *testing.T, tree int) {
		b := newBook(t, 400)
		k, _ := sizes(tree)
		var all [][]byte
		for _, from := range []byte{0, 127, 255} {
			base := slices.Repeat([]byte{from}, k)
			all = append(all, base)
			for i := range k {
				for _, add := range []byte{1, 128, 255} {
					c := slices.Clone(base)
					c[i] += add
					all = append(all, c)
				}
			}
		}
		r := rand.New(rand.NewSource(int64(tree)))
		r.Shuffle(len(all), func(i, j int) { all[i], all[j] = all[j], all[i] })
		for i, key := range all {
			b.put(tree, key, valueOf(tree, i))
		}
		b.commit()
		for _, key := range all {
			b.get(tree, key)
		}
		r.Shuffle(len(all), func(i, j int) { all[i], all[j] = all[j], all[i] })
		for _, key := range all {
			b.cut(tree, key)
		}
		b.checkAll()
	})
}

// Trees beside each other don't touch each other: what is put into one isn't in another.
func TestBeside(t *testing.T) {
	b := newBook(t, 200)
	for n := range 60 {
		for tree := range 8 {
			b.put(tree, keyOf(tree, n), valueOf(tree, n+tree))
		}
		if n%9 == 0 {
			b.commit()
			b.checkAll()
		}
	}
	for n := range 60 {
		for tree := range 8 {
			if (n+tree)%3 != 0 {
				b.cut(tree, keyOf(tree, n))
			}
		}
		if n%7 == 0 {
			b.checkAll()
			b.commit()
		}
	}
	b.checkAll()
}

// A tree of four levels, and back, in which the keys come as they like.
func TestHigh(t *testing.T) {
	b := newBook(t, 2000)
	all := orders(1300)
	for i, k := range all["rising"] {
		if e := Put(b.p, 0, keyOf(0, k), valueOf(0, k)); e != api.OK {
			t.Fatal(e)
		}
		b.now[0][string(keyOf(0, k))] = string(valueOf(0, k))
		if i%100 == 0 {
			b.checkAll()
			b.commit()
		}
	}
	if r := b.p.Root(0); r.Height != 4 || r.Count != 1300 {
		t.Fatal(r)
	}
	for i, k := range all["any"] {
		if e := Cut(b.p, 0, keyOf(0, k)); e != api.OK {
			t.Fatal(e)
		}
		delete(b.now[0], string(keyOf(0, k)))
		if i%100 == 0 || b.p.Root(0).Height != 4 && i%20 == 0 {
			b.checkAll()
			b.commit()
		}
	}
	b.checkAll()
	if r := b.p.Root(0); r != (api.Root{}) {
		t.Fatal(r)
	}
}
