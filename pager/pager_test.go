package pager

import (
	"bytes"
	"slices"
	"strconv"
	"testing"

	"cashbook/api"
	"cashbook/disk"
)

// mixed are so many bytes, unlike from place to place and from number to number.
func mixed(n, by int) []byte {
	b := make([]byte, n)
	for i := range b {
		b[i] = byte(by*89 + i*7 + i/256 + 1)
	}
	return b
}

// rootOf is a root that tells which it is.
func rootOf(n uint32) api.Root { return api.Root{Page: n, Count: n + 100, Height: n + 200} }

// P10.1: the chapter's examples.
func TestExample(t *testing.T) {
	d, _ := disk.New(8)
	checkErr(t, "Format", Format(d), api.OK)
	p := reopened(t, d)
	checkPages(t, "Lists", p.Lists(), []uint32{2})
	checkPages(t, "Free", p.Free(), []uint32{3, 4, 5, 6, 7})
	if n, err := p.Make(3, []byte("x")); n != 3 || err != api.OK {
		t.Errorf("Make answers %d and %d", n, err)
	}
	checkErr(t, "Commit", p.Commit(), api.OK)
	checkPages(t, "Lists", p.Lists(), []uint32{4})
	checkPages(t, "Free", p.Free(), []uint32{2, 5, 6, 7})
	p = reopened(t, d)
	checkPages(t, "Lists", p.Lists(), []uint32{4})
	checkPages(t, "Free", p.Free(), []uint32{2, 5, 6, 7})
	if p.Seq() != 2 {
		t.Error(p.Seq())
	}
}

// P10.1: Format, block by block, and what a pager tells of it.
func TestFormat(t *testing.T) {
	for _, blocks := range sizes() {
		d, p, m := made(t, blocks)
		m.check(t, d, p)
		m.check(t, d, reopened(t, d))
		if p.Seq() != 1 || p.Room() != blocks-2-needOf(blocks-2) {
			t.Errorf("of %d blocks: Seq %d, Room %d", blocks, p.Seq(), p.Room())
		}
	}
	for blocks, lists := range map[int]int{8: 1, 9: 1, 125: 1, 126: 1, 127: 2, 250: 2, 251: 3, 4096: 34} {
		_, p, _ := made(t, blocks)
		if len(p.Lists()) != lists {
			t.Errorf("of %d blocks the list takes %d, not %d", blocks, len(p.Lists()), lists)
		}
	}
}

// P10.1: Format makes an empty disk of any, too: of one that has waiting writes, one that was used, one that is full of any bytes.
func TestFormatOfAnyDisk(t *testing.T) {
	for _, blocks := range []int{8, 127} {
		d, p, m := made(t, blocks)
		for i := range 4 {
			m.doMake(t, p, byte(i), mixed(9, i))
		}
		m.doRoot(t, p, 3, rootOf(4))
		m.doCommit(t, p)
		for n := 0; n < blocks; n += 3 {
			b := bytes.Repeat([]byte{byte(n)}, 512)
			d.Write(n, b)
			m.blocks[n] = b
			m.writes++
		}
		checkErr(t, "Format", Format(d), api.OK)
		acts, after := formatActs(blocks)
		after.blocks, after.writes = m.blocks, m.writes
		for _, a := range acts {
			if a.n != isSync {
				after.blocks[a.n] = a.b
				after.writes++
			}
		}
		after.check(t, d, reopened(t, d))
	}
}

// P10.1: ordinary transactions and commits, block by block, on disks of all sizes.
func TestCommits(t *testing.T) {
	for _, blocks := range sizes() {
		d, p, m := made(t, blocks)
		first := m.doMake(t, p, api.KindLeaf, []byte("first"))
		second := m.doMake(t, p, api.KindInner, nil)
		m.doRoot(t, p, 0, rootOf(first))
		m.doRoot(t, p, 7, rootOf(second))
		m.check(t, d, p)
		m.doCommit(t, p)
		m.check(t, d, p)
		m.check(t, d, reopened(t, d))

		m.doDrop(t, p, first)
		third := m.doMake(t, p, 0, mixed(500, 1))
		m.doRoot(t, p, 0, rootOf(third))
		m.check(t, d, p)
		m.doCommit(t, p)
		m.check(t, d, p)

		// What was deferred is free now, and is made again.
		if n := m.doMake(t, p, 255, mixed(499, 2)); n != 2 && n != first {
			t.Errorf("of %d blocks: page %d is made", blocks, n)
		}
		m.doCommit(t, p)
		m.doDrop(t, p, second)
		m.doDrop(t, p, third)
		m.doRoot(t, p, 0, api.Root{})
		m.doRoot(t, p, 7, api.Root{})
		m.doCommit(t, p)
		m.check(t, d, p)
		m.check(t, d, reopened(t, d))
		if p.Seq() != 5 {
			t.Errorf("of %d blocks: Seq %d", blocks, p.Seq())
		}
	}
}

// P10.1: many pages in one transaction, so that the list takes fewer and more pages from commit to commit.
func TestManyPages(t *testing.T) {
	for _, blocks := range []int{125, 126, 127, 250, 4096} {
		d, p, m := made(t, blocks)
		for _, part := range []int{2, 3, 5} {
			for i := range p.Room() / part {
				m.doMake(t, p, byte(i), mixed(i%501, i))
			}
			m.doCommit(t, p)
			m.check(t, d, p)
		}
		for _, by := range []uint32{2, 3, 1} {
			for n := uint32(2); n < uint32(blocks); n += by {
				if m.sorts[n] == inUse {
					m.doDrop(t, p, n)
				}
			}
			m.doCommit(t, p)
			m.check(t, d, p)
		}
		m.check(t, d, reopened(t, d))
		if used := m.of("u"); len(used) != 0 {
			t.Errorf("of %d blocks %v are in use", blocks, used)
		}
	}
}

// P10.1: a commit at which nothing is fresh, nothing deferred and no root has changed writes nothing, however that came to be.
func TestNothingToCommit(t *testing.T) {
	d, p, m := made(t, 9)
	used := m.doMake(t, p, 3, []byte("used"))
	m.doRoot(t, p, 2, rootOf(used))
	m.doCommit(t, p)
	nothing := func() {
		t.Helper()
		writes := d.Writes()
		checkErr(t, "Commit", p.Commit(), api.OK)
		if d.Writes() != writes || p.Seq() != 2 {
			t.Errorf("%d writes, Seq %d", d.Writes()-writes, p.Seq())
		}
		m.check(t, d, p)
	}
	nothing()
	nothing()
	m.doDrop(t, p, m.doMake(t, p, 3, nil))
	nothing()
	m.doRoot(t, p, 2, rootOf(77))
	m.doRoot(t, p, 2, rootOf(used))
	nothing()
	x := m.doSave(t, p)
	m.doDrop(t, p, used)
	m.doMake(t, p, 3, nil)
	m.doRoot(t, p, 2, api.Root{})
	m.doBack(t, p, x)
	nothing()
	m.doDrop(t, p, used)
	m.doAbort(p)
	nothing()
	m.doDrop(t, p, 2)
	m.doPut(t, p, used, 3, nil)
	m.doRoot(t, p, 8, rootOf(2))
	nothing()
	// There is no act, so the disk doesn't fall.
	d.Fuse(0)
	nothing()
}

// P10.1: a commit that changes a root alone, in one of its parts, is one.
func TestRootsAlone(t *testing.T) {
	for _, blocks := range []int{8, 127, 250} {
		d, p, m := made(t, blocks)
		seq := p.Seq()
		for i := range 8 {
			for _, r := range []api.Root{{Page: 5}, {Page: 5, Count: 1}, {Page: 5, Count: 1, Height: 1}, {}, {Height: 1<<32 - 1}} {
				m.doRoot(t, p, i, r)
				m.doCommit(t, p)
				seq++
				if p.Seq() != seq {
					t.Errorf("Seq %d, not %d", p.Seq(), seq)
				}
				m.check(t, d, p)
			}
		}
		m.check(t, d, reopened(t, d))
	}
}

// P10.1: trees of -1, 0, 7 and 8, and others far off.
func TestTrees(t *testing.T) {
	d, p, m := made(t, 8)
	for _, i := range []int{-1 << 62, -8, -1, 0, 7, 8, 9, 15, 256, 1 << 32, 1 << 62} {
		m.doRoot(t, p, i, rootOf(uint32(i)&1023))
		m.check(t, d, p)
		if i < 0 || i > 7 {
			if p.Root(i) != (api.Root{}) {
				t.Errorf("Root(%d) is %v", i, p.Root(i))
			}
		}
	}
	m.doCommit(t, p)
	m.check(t, d, p)
}

// P10.1: pages are made till none is free; a commit finds no room then, and nothing has changed; with one page less it does.
func TestFull(t *testing.T) {
	for _, blocks := range sizes() {
		d, p, m := made(t, blocks)
		for i := range p.Room() {
			m.doMake(t, p, 3, mixed(i%501, i))
		}
		x := m.doSave(t, p)
		for range 3 {
			m.doMake(t, p, 3, nil)
			m.doMake(t, p, 3, make([]byte, 501))
			m.doCommit(t, p)
		}
		if p.Seq() != 1 || p.Room() != 0 {
			t.Errorf("of %d blocks: Seq %d, Room %d", blocks, p.Seq(), p.Room())
		}
		m.check(t, d, p)
		m.doBack(t, p, x)
		m.doDrop(t, p, m.of("n")[len(m.of("n"))/2])
		m.check(t, d, p)
		m.doCommit(t, p)
		if p.Seq() != 2 {
			t.Errorf("of %d blocks: Seq %d", blocks, p.Seq())
		}
		m.check(t, d, p)
		m.check(t, d, reopened(t, d))
	}
}

// P10.1: a commit needs pages that are free now: those that are deferred, and the list's, are none of these, though the list names them.
func TestCommitNeedsFreeNow(t *testing.T) {
	for _, blocks := range []int{127, 250, 4096} {
		d, p, m := made(t, blocks)
		for p.Room()+len(p.Lists()) > 2 {
			for p.Room() > 1 {
				m.doMake(t, p, 3, nil)
			}
			m.doCommit(t, p)
		}
		m.check(t, d, p)
		used, seq := m.of("u"), p.Seq()
		for _, n := range used {
			m.doDrop(t, p, n)
		}
		for range 2 {
			m.doCommit(t, p)
			m.check(t, d, p)
		}
		if p.Seq() != seq || p.Room() != 1 {
			t.Errorf("of %d blocks a commit found room: %d free, %d deferred", blocks, p.Room(), len(p.Deferred()))
		}
		// One page names 122 of them, and the page that the list stands in now.
		for _, drops := range []int{123, 122} {
			m.doAbort(p)
			for _, n := range used[:drops] {
				m.doDrop(t, p, n)
			}
			m.doCommit(t, p)
			m.check(t, d, p)
		}
		if p.Seq() != seq+1 || p.Room() != 123 {
			t.Errorf("of %d blocks: Seq %d behind %d, %d free", blocks, p.Seq(), seq, p.Room())
		}
	}
}

// P10.1: Read, Put and Drop of each sort of page, with right bodies and such as are too long.
func TestSortsOfPages(t *testing.T) {
	for _, blocks := range []int{9, 127} {
		d, p, m := made(t, blocks)
		used := m.doMake(t, p, 3, []byte("used"))
		gone := m.doMake(t, p, 4, []byte("gone"))
		m.doCommit(t, p)
		fresh := m.doMake(t, p, 5, []byte("fresh"))
		m.doDrop(t, p, gone)
		free, list := m.of("f")[1], m.lists[0]
		for _, n := range []uint32{0, 1, used, gone, fresh, free, list, uint32(blocks) - 1, uint32(blocks), uint32(blocks) + 1, 1 << 16, 1<<16 + fresh, 1<<32 - 1} {
			m.checkRead(t, p, n)
			m.doPut(t, p, n, 6, mixed(501, 1))
			m.doPut(t, p, n, 6, mixed(1<<16, 1))
			m.check(t, d, p)
			m.doPut(t, p, n, 6, mixed(500, int(n)))
			m.check(t, d, p)
			x := m.doSave(t, p)
			for range 2 {
				m.doDrop(t, p, n)
				m.check(t, d, p)
				m.doPut(t, p, n, 7, nil)
				m.checkRead(t, p, n)
			}
			m.doBack(t, p, x)
			m.check(t, d, p)
		}
	}
}

// P10.1: a fresh page that is dropped is free again, and is made again, as another one; of several free ones the least.
func TestDroppedAndMadeAgain(t *testing.T) {
	d, p, m := made(t, 9)
	for i := range 5 {
		m.doMake(t, p, 3, mixed(9, i))
	}
	for _, n := range []uint32{5, 3, 7, 4} {
		m.doDrop(t, p, n)
		m.doDrop(t, p, n)
		m.doPut(t, p, n, 3, nil)
		m.checkRead(t, p, n)
	}
	for i, want := range []uint32{3, 4, 5, 7, 8, 0} {
		if n := m.doMake(t, p, byte(9+i), mixed(i, i)); n != want {
			t.Errorf("page %d is made, not %d", n, want)
		}
		m.check(t, d, p)
	}
	m.doDrop(t, p, 3)
	m.doCommit(t, p)
	m.check(t, d, p)
}

// P10.1: a page that is in use is never written over: it isn't put, and one that is deferred stays on the disk as it is, and isn't made, until the next commit.
func TestDeferred(t *testing.T) {
	d, p, m := made(t, 8)
	a := m.doMake(t, p, 3, []byte("a"))
	b := m.doMake(t, p, 3, []byte("b"))
	m.doCommit(t, p)
	m.doDrop(t, p, a)
	m.doPut(t, p, b, 3, []byte("c"))
	m.checkRead(t, p, a)
	for p.Room() > 1 {
		if n := m.doMake(t, p, 3, nil); n == a {
			t.Errorf("page %d is made, which is deferred", n)
		}
	}
	m.check(t, d, p)
	m.doCommit(t, p)
	m.check(t, d, p)
	if n := m.doMake(t, p, 3, nil); n == 0 {
		t.Error("no page is made")
	}
}

// P10.1: bodies of every length, and every kind, made, put, and read again: in the transaction, behind the commit, and by another pager.
func TestBodies(t *testing.T) {
	d, p, m := made(t, 1100)
	for n := range 503 {
		m.doMake(t, p, byte(n), mixed(n, n))
	}
	m.check(t, d, p)
	for i, n := range m.of("n") {
		m.doPut(t, p, n, byte(255-i), mixed((i*7)%503, i))
	}
	m.check(t, d, p)
	m.doCommit(t, p)
	m.check(t, d, p)
	m.check(t, d, reopened(t, d))
	for _, body := range [][]byte{nil, {}, {0}, make([]byte, 500)} {
		m.doMake(t, p, 0, body)
	}
	m.doMake(t, p, 0, make([]byte, 1<<20))
	m.check(t, d, p)
}

// R2: where several faults are there the first one is answered.
func TestWhichFirst(t *testing.T) {
	d, p, m := made(t, 8)
	long := make([]byte, 501)
	for _, n := range []uint32{0, 1, 2, 3, 7, 8, 1<<32 - 1} {
		checkErr(t, "Put", p.Put(n, 3, long), api.ErrState)
	}
	for p.Room() > 0 {
		m.doMake(t, p, 3, nil)
	}
	n, err := p.Make(3, long)
	if n != 0 || err != api.ErrLong {
		t.Errorf("Make answers %d and %d, not ErrLong", n, err)
	}
	n, err = p.Make(3, long[:500])
	if n != 0 || err != api.ErrFull {
		t.Errorf("Make answers %d and %d, not ErrFull", n, err)
	}
	m.check(t, d, p)
	// A disk that is down, and too few free pages: nothing has changed, and the pager isn't over.
	d.Fuse(0)
	d.Sync()
	checkErr(t, "Commit", p.Commit(), api.ErrFull)
	m.checkTold(t, p)
	m.doDrop(t, p, 5)
	m.doDrop(t, p, 7)
	m.checkTold(t, p)
	checkErr(t, "Commit", p.Commit(), api.ErrDown)
	checkOver(t, p)
	checkErr(t, "Read", second(p.Read(2)), api.ErrDown)
}

// second is an error that stands behind a kind and a body.
func second(_ byte, _ []byte, err api.Errno) api.Errno { return err }

// P10.1: of a disk that is down fresh pages are told, as they aren't on it; those in use are layer 5's ErrDown; and what isn't either is ErrState. Only the commit makes the pager be over.
func TestDown(t *testing.T) {
	d, p, m := made(t, 8)
	used := m.doMake(t, p, 3, []byte("used"))
	m.doCommit(t, p)
	fresh := m.doMake(t, p, 4, []byte("fresh"))
	d.Fuse(0)
	d.Sync()
	m.checkRead(t, p, fresh)
	checkErr(t, "Read", second(p.Read(used)), api.ErrDown)
	for _, n := range []uint32{0, 1, m.lists[0], m.of("f")[0], 8} {
		m.checkRead(t, p, n)
	}
	m.doPut(t, p, fresh, 5, nil)
	m.doMake(t, p, 3, nil)
	x := m.doSave(t, p)
	m.doDrop(t, p, used)
	checkErr(t, "Read", second(p.Read(used)), api.ErrState)
	m.doRoot(t, p, 0, rootOf(3))
	m.checkTold(t, p)
	m.doBack(t, p, x)
	m.checkTold(t, p)
	m.doAbort(p)
	m.checkTold(t, p)
	checkErr(t, "Commit", p.Commit(), api.ErrDown)
	checkOver(t, p)
	checkErr(t, "Back", p.Back(x.m), api.ErrDown)
}

// P10.1: a pager that is over stays so, also when its disk is up again.
func TestOver(t *testing.T) {
	for fuse := range 5 {
		d, p, m := made(t, 8)
		used := m.doMake(t, p, 3, []byte("used"))
		m.doRoot(t, p, 1, rootOf(used))
		m.doCommit(t, p)
		x := m.doSave(t, p)
		m.doMake(t, p, 3, []byte("fresh"))
		m.doDrop(t, p, used)
		y := m.doSave(t, p)
		d.Fuse(fuse)
		checkErr(t, "Commit", p.Commit(), api.ErrDown)
		checkOver(t, p)
		for _, z := range []mark{x, y} {
			checkErr(t, "Back", p.Back(z.m), api.ErrDown)
		}
		d.Crash(nil)
		checkOver(t, p)
		for _, z := range []mark{x, y} {
			checkErr(t, "Back", p.Back(z.m), api.ErrDown)
		}
		m.abort()
		q := reopened(t, d)
		m.checkTold(t, q)
		m.checkReads(t, q)
		checkErr(t, "Back", q.Back(x.m), api.ErrState)
	}
}

// P10.1: what an in-use page says that isn't right is layer 6's error; with no list all pages are in use.
func TestReadOfWrongPages(t *testing.T) {
	d, _ := disk.New(8)
	s := api.Super{Seq: 6, Blocks: 8, Roots: [8]api.Root{3: rootOf(9)}}
	right := laidPage(4, 9, []byte("right"))
	form := laidPage(5, 9, make([]byte, 500))
	form[11] = 1
	copy(form, sumOf(form[4:]))
	m := &model{blocks: [][]byte{laidSuper(s), make([]byte, 512), make([]byte, 512), laidPage(4, 9, nil), right, form, laidPage(6, 1, nil), slices.Repeat([]byte{255}, 512)}}
	for n, b := range m.blocks {
		d.Write(n, b)
	}
	d.Sync()
	m.writes = 8
	m.begun(s, nil, nil)
	p := reopened(t, d)
	m.check(t, d, p)
	for n, want := range []api.Errno{api.ErrState, api.ErrState, api.ErrSum, api.ErrRange, api.OK, api.ErrForm, api.OK, api.ErrSum} {
		checkErr(t, "Read of "+strconv.Itoa(n), second(p.Read(uint32(n))), want)
	}
	m.doMake(t, p, 3, nil)
	m.doDrop(t, p, 3)
	m.doCommit(t, p)
	m.check(t, d, p)
	m.doAbort(p)
	// Nothing is free, deferred or the list's: so there is no list, and a commit takes no room.
	m.doRoot(t, p, 0, rootOf(4))
	m.doCommit(t, p)
	m.check(t, d, p)
	if p.Seq() != 7 || len(p.Lists()) != 0 {
		t.Errorf("Seq %d, Lists %v", p.Seq(), p.Lists())
	}
	m.check(t, d, reopened(t, d))
}

// P10.1: a list that takes more pages than it must is right, as are pages of it that name few or none: the next commit writes it anew.
func TestSparseLists(t *testing.T) {
	d, _ := disk.New(9)
	s := api.Super{Seq: 2, Blocks: 9, List: 5, Free: 3}
	lists, named := []uint32{5, 8, 2}, []uint32{3, 4, 7}
	m := &model{blocks: slices.Repeat([][]byte{make([]byte, 512)}, 9)}
	m.blocks[0] = laidSuper(s)
	m.blocks[5] = laidPage(5, 2, laidPart(8, 3))
	m.blocks[8] = laidPage(8, 2, laidPart(2))
	m.blocks[2] = laidPage(2, 2, laidPart(0, 4, 7))
	for n, b := range m.blocks {
		d.Write(n, b)
	}
	d.Sync()
	m.writes = 9
	m.begun(s, lists, named)
	p := reopened(t, d)
	m.check(t, d, p)
	m.doMake(t, p, 3, []byte("x"))
	m.doCommit(t, p)
	m.check(t, d, p)
	checkPages(t, "Lists", p.Lists(), []uint32{4})
	checkPages(t, "Free", p.Free(), []uint32{2, 5, 7, 8})
}

// P10.1: where the list stands in a page and names none, a commit of nothing needs no room; one of a root alone does, and there is none.
func TestNothingToCommitWithoutRoom(t *testing.T) {
	s := api.Super{Seq: 1, Blocks: 8, List: 4}
	d := written(t, 8, s, parts([]uint32{4}, nil))
	m := &model{blocks: blocksOf(t, d), writes: d.Writes()}
	m.begun(s, []uint32{4}, nil)
	p := reopened(t, d)
	checkErr(t, "Commit", p.Commit(), api.OK)
	m.check(t, d, p)
	m.doRoot(t, p, 0, rootOf(3))
	checkErr(t, "Commit", p.Commit(), api.ErrFull)
	m.check(t, d, p)
	m.doDrop(t, p, 3)
	checkErr(t, "Commit", p.Commit(), api.ErrFull)
	m.check(t, d, p)
}

// P10.1: two pagers of one disk, one of which only looks, and those of two disks, have nothing of each other.
func TestTwoPagers(t *testing.T) {
	d, p, m := made(t, 9)
	e, q, o := made(t, 9)
	look := reopened(t, d)
	m.doMake(t, p, 3, []byte("p"))
	m.doRoot(t, p, 0, rootOf(3))
	o.doMake(t, q, 4, []byte("q"))
	o.doMake(t, q, 4, []byte("r"))
	m.check(t, d, p)
	o.check(t, e, q)
	o.doCommit(t, q)
	m.doCommit(t, p)
	m.check(t, d, p)
	o.check(t, e, q)
	if look.Seq() != 1 || len(look.Free()) != 6 || look.Root(0) != (api.Root{}) {
		t.Error("another pager has changed")
	}
}
