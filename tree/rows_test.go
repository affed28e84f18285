package tree

import (
	"encoding/binary"
	"math/rand"
	"slices"
	"testing"

	"cashbook/api"
	"cashbook/disk"
	"cashbook/pager"
)

// point is a mark, and what should be there when it is gone back to.
type point struct {
	m    *pager.Mark
	now  held
	snap string
}

// row is a book, and the marks that were made of its transaction.
type row struct {
	*book
	marks []point
}

// Which calls a row is made of.
const (
	doPut = iota
	doAnew
	doCut
	doCutThere
	doGet
	doCommit
	doAbort
	doSave
	doBack
	doWrong
	doReopen
	doings
)

// keyIn is a key of a tree by a number: near ones share their beginning, or differ in it alone.
func keyIn(tree int, n uint16) []byte {
	k := keyOf(tree, int(n&0x3fff))
	if n&0x4000 != 0 {
		k[0] = byte(n)
	}
	return k
}

// there is one of the keys that a tree has, or any, if it has none.
func (r *row) there(tree int, n uint16) []byte {
	all := make([]string, 0, len(r.now[tree]))
	for k := range r.now[tree] {
		all = append(all, k)
	}
	if len(all) == 0 {
		return keyIn(tree, n)
	}
	slices.Sort(all)
	return []byte(all[int(n)%len(all)])
}

// do does one thing, and looks at what it did.
func (r *row) do(what, tree int, n uint16) {
	r.Helper()
	switch what {
	case doPut:
		r.put(tree, keyIn(tree, n), valueOf(tree, int(n)))
	case doAnew:
		r.put(tree, r.there(tree, n), valueOf(tree, int(n)+1))
	case doCut:
		r.cut(tree, keyIn(tree, n))
	case doCutThere:
		r.cut(tree, r.there(tree, n))
	case doGet:
		r.get(tree, r.there(tree, n))
		r.get(tree, keyIn(tree, n))
	case doCommit:
		r.commitOrFull()
	case doAbort:
		r.abort()
		r.marks = nil
	case doSave:
		r.marks = append(r.marks, point{r.p.Save(), r.now.copied(), snap(r.p)})
	case doBack:
		r.back(int(n))
	case doWrong:
		r.all(8+int(n), keyIn(tree, n), nil, api.ErrRange)
		r.all(tree, keyIn(tree, n)[1:], nil, api.ErrArg)
	case doReopen:
		r.reopen()
	}
}

// commitOrFull commits, if there is room for the list.
func (r *row) commitOrFull() {
	r.Helper()
	seq := r.p.Seq()
	e := r.p.Commit()
	if e == api.ErrFull {
		return
	}
	if e != api.OK {
		r.Fatal(e)
	}
	r.begun = r.now.copied()
	if r.p.Seq() != seq {
		r.marks = nil
	}
}

// back goes back to one of the marks.
func (r *row) back(n int) {
	r.Helper()
	if len(r.marks) == 0 {
		return
	}
	m := r.marks[n%len(r.marks)]
	if e := r.p.Back(m.m); e != api.OK {
		r.Fatal(e)
	}
	r.now = m.now.copied()
	if snap(r.p) != m.snap {
		r.Fatal("behind Back all isn't as it was")
	}
}

// reopen opens the disk anew: what wasn't committed is gone.
func (r *row) reopen() {
	r.Helper()
	p, e := pager.Open(r.d)
	if e != api.OK {
		r.Fatal(e)
	}
	r.p, r.now, r.marks = p, r.begun.copied(), nil
}

// Rows of calls by chance, on disks of many sizes: behind each one all trees that are touched are right, and have what they should.
func TestRows(t *testing.T) {
	for seed := range int64(48) {
		t.Run("", func(t *testing.T) {
			t.Parallel()
			rnd := rand.New(rand.NewSource(seed))
			blocks := []int{8, 16, 40, 130, 200}[seed%5]
			r := &row{book: newBook(t, blocks)}
			trees := 1 + rnd.Intn(8)
			spread := []int{12, 100, 900, 1 << 16}[rnd.Intn(4)]
			lean := rnd.Intn(3)
			for i := range 700 {
				if i%100 == 0 {
					lean = rnd.Intn(3)
				}
				tree := (int(seed) + rnd.Intn(trees)) % 8
				n := uint16(rnd.Intn(spread))
				what := rnd.Intn(doings)
				if rnd.Intn(4) > 0 { // Mostly it grows, or falls.
					what = []int{doPut, doCutThere, rnd.Intn(doCommit)}[lean]
				} else if what >= doAbort && rnd.Intn(3) > 0 {
					what = doGet
				}
				r.do(what, tree, n)
				if i%20 == 0 {
					r.checkAll()
				}
			}
			r.checkAll()
		})
	}
}

// R5: the same calls do the same to another disk, page by page.
func TestTheSame(t *testing.T) {
	run := func(d *disk.Disk) []byte {
		if e := pager.Format(d); e != api.OK {
			t.Fatal(e)
		}
		p, _ := pager.Open(d)
		rnd := rand.New(rand.NewSource(5))
		var all []byte
		for i := range 1500 {
			tree, n := rnd.Intn(8), rnd.Intn(90)
			var e api.Errno
			if rnd.Intn(5) < 3 {
				e = Put(p, tree, keyOf(tree, n), valueOf(tree, i))
			} else {
				e = Cut(p, tree, keyOf(tree, n))
			}
			all = append(all, byte(e))
			if i%40 == 0 {
				all = append(all, snap(p)...)
				p.Commit()
			}
		}
		for n := range d.Blocks() {
			b, _ := d.Read(n)
			all = append(all, b...)
		}
		return all
	}
	first, _ := disk.New(150)
	second, _ := disk.New(150)
	if !slices.Equal(run(first), run(second)) {
		t.Error("two disks are told the same, and aren't the same")
	}
}

// Rows of calls as bytes: what, which tree, and two bytes of a number each.
func FuzzRows(f *testing.F) {
	rnd := rand.New(rand.NewSource(9))
	for n := range 6 {
		var row []byte
		for i := range 150 {
			what := []int{doPut, doPut, doPut, doCutThere, doAnew, rnd.Intn(doings)}[rnd.Intn(6)]
			row = append(row, byte(what), byte(n+rnd.Intn(2)))
			row = binary.BigEndian.AppendUint16(row, uint16(i*n%97))
		}
		f.Add(row, byte(n*9))
	}
	f.Fuzz(func(t *testing.T, calls []byte, size byte) {
		r := &row{book: newBook(t, 8+int(size)%64)}
		for ; len(calls) >= 4 && len(calls) <= 1200; calls = calls[4:] {
			r.do(int(calls[0])%doings, int(calls[1])%8, binary.BigEndian.Uint16(calls[2:]))
		}
		r.checkAll()
	})
}

// Pages of any nodes, right and wrong, and roots of any sort: no call panics, each ends, and behind an error all is as it was.
func FuzzWrong(f *testing.F) {
	rnd := rand.New(rand.NewSource(3))
	for n := range byte(8) {
		for _, long := range []int{0, 30, 300} {
			b := make([]byte, long)
			rnd.Read(b)
			f.Add(n, b, uint32(2+n%4), uint32(n), uint32(2), n)
			f.Add(n, b, uint32(2+n%4), uint32(n), uint32(3), n*3)
		}
	}
	f.Fuzz(func(t *testing.T, tree byte, raw []byte, page, count, height uint32, n byte) {
		tr := int(tree % 8)
		b := newBook(t, 12)
		take := func() byte {
			if len(raw) == 0 {
				return 0
			}
			c := raw[0]
			raw = raw[1:]
			return c
		}
		for range 9 {
			kind, body := anyNode(tr, take)
			if _, e := b.p.Make(kind, body); e != api.OK {
				break
			}
			if take() == 77 {
				b.p.Commit()
			}
		}
		b.p.SetRoot(tr, api.Root{Page: page, Count: count, Height: height})
		for i := range 8 {
			key := keyOf(tr, int(take())%8+int(n)%2*i)
			for _, name := range []string{"Get", "Put", "Cut"} {
				was := snap(b.p)
				if e := calls(b, tr, key, valueOf(tr, i))[name](); e != api.OK && snap(b.p) != was {
					t.Fatal(name, e)
				}
			}
		}
	})
}

// anyNode is a node whose keys mostly rise, and whose kids are mostly pages of a small disk.
func anyNode(tree int, take func() byte) (byte, []byte) {
	keys, kids := capsOf(tree)
	n, key := plain{leaf: take()%3 == 0}, int(take()%4)
	most := kids
	if n.leaf {
		most = keys
	}
	size := min(int(take()%8)+1, most)
	if take() == 9 {
		size = most
	}
	for i := range size {
		if n.leaf {
			n.keys, n.values = append(n.keys, keyOf(tree, key)), append(n.values, valueOf(tree, key))
		} else {
			n.kids = append(n.kids, uint32(take()%12))
			if i > 0 {
				n.keys = append(n.keys, keyOf(tree, key))
			}
		}
		key += int(take() % 4)
	}
	return bodyOf(n)
}
