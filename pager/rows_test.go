package pager

import (
	"bytes"
	"math/rand"
	"slices"
	"testing"

	"cashbook/api"
	"cashbook/disk"
)

// run is a disk, its pager, what they should be, and marks.
type run struct {
	d     *disk.Disk
	p     *Pager
	m     *model
	marks []mark
}

// row does so many calls, chosen by next, and holds everything against the model behind each.
func row(t testing.TB, blocks, steps int, next func(int) int) {
	t.Helper()
	d, p, m := made(t, blocks)
	r := &run{d: d, p: p, m: m, marks: []mark{{}}}
	for range steps {
		r.step(t, next)
		r.m.check(t, r.d, r.p)
		if t.Failed() {
			t.FailNow()
		}
	}
}

// some is a number of a page, of any sort, or of none.
func (r *run) some(next func(int) int) uint32 {
	if next(6) > 0 {
		if all := r.m.of([]string{"f", "l", "n", "n", "u", "u", "d"}[next(7)]); len(all) > 0 {
			return all[next(len(all))]
		}
	}
	return uint32(next(len(r.m.blocks)+3)) - uint32(next(2))
}

// body is a page's body, at times one that is too long.
func body(next func(int) int) []byte {
	return mixed([]int{0, 1, 30, 499, 500, 501, next(503)}[next(7)], next(256))
}

// step does one call.
func (r *run) step(t testing.TB, next func(int) int) {
	t.Helper()
	switch next(16) {
	case 0, 1, 2, 3:
		r.m.doMake(t, r.p, byte(next(256)), body(next))
	case 4, 5:
		r.m.doPut(t, r.p, r.some(next), byte(next(256)), body(next))
	case 6, 7, 8:
		r.m.doDrop(t, r.p, r.some(next))
	case 9:
		r.m.doRoot(t, r.p, next(10)-1, api.Root{Page: uint32(next(3)), Count: uint32(next(2))})
	case 10:
		r.marks = append(r.marks, r.m.doSave(t, r.p))
	case 11:
		r.m.doBack(t, r.p, r.marks[next(len(r.marks))])
	case 12:
		r.m.doCommit(t, r.p)
	case 13:
		r.fall(t, next)
	case 14:
		r.more(t, next)
	case 15:
		if next(4) == 0 {
			r.m.doAbort(r.p)
		} else {
			r.look(t)
		}
	}
}

// look opens the disk anew: that pager is at the commit, whatever the transaction has done.
func (r *run) look(t testing.TB) {
	t.Helper()
	x := model{blocks: r.m.blocks}
	x.begun(r.m.commit, r.m.lists, r.m.named)
	q := reopened(t, r.d)
	x.checkTold(t, q)
	x.checkReads(t, q)
}

// more is many calls of one sort.
func (r *run) more(t testing.TB, next func(int) int) {
	t.Helper()
	switch next(3) {
	case 0:
		for r.p.Room() > next(3) {
			r.m.doMake(t, r.p, 3, mixed(5, r.p.Room()))
		}
	case 1:
		for _, n := range r.m.of("un") {
			if next(2) == 0 {
				r.m.doDrop(t, r.p, n)
			}
		}
	case 2:
		for range 3 {
			r.m.doCommit(t, r.p)
		}
	}
}

// fall lets the disk fall at an act of a commit, or behind it, and crash, and opens it again.
func (r *run) fall(t testing.TB, next func(int) int) {
	t.Helper()
	acts, after, want := r.m.commitActs()
	k := next(len(acts) + 2)
	if next(2) == 0 {
		k = max(0, len(acts)-1-next(3))
	}
	r.d.Fuse(k)
	if k >= len(acts) || want != api.OK {
		checkErr(t, "Commit", r.p.Commit(), want)
		r.d.Fuse(-1)
		*r.m = *after
		return
	}
	checkErr(t, "Commit", r.p.Commit(), api.ErrDown)
	checkOver(t, r.p)
	waits, safe := waiting(r.m.blocks, acts, k)
	l := make([]api.Loss, next(len(waits)+2))
	for i := range l {
		l[i] = []api.Loss{{}, whole, {From: next(300), To: next(600)}}[next(3)]
	}
	r.d.Crash(l)
	left := lost(safe, waits, l)
	if newest := after.commit.Seq % 2; bytes.Equal(left[newest], after.blocks[newest]) {
		*r.m = *after
	}
	r.m.blocks, r.m.writes = left, r.d.Writes()
	r.m.abort()
	r.p = reopened(t, r.d)
	// Marks of the pager that is over are another one's.
	for i := range r.marks {
		r.marks[i].of = nil
	}
}

// P10.1, P10.2, P10.3: every call answers as said, in every order of calls, on small disks and on such as take several list pages.
func TestRowsOfCalls(t *testing.T) {
	for seed := range int64(60) {
		source := rand.New(rand.NewSource(seed))
		row(t, 8+source.Intn(5), 250, source.Intn)
	}
	for i, blocks := range []int{125, 126, 127, 250} {
		source := rand.New(rand.NewSource(int64(100 + i)))
		row(t, blocks, 150, source.Intn)
	}
	row(t, 4096, 25, rand.New(rand.NewSource(200)).Intn)
}

// P10.1 and P10.2: all rows of five calls of a few kinds, on a disk on which two pages are in use.
func TestAllShortRows(t *testing.T) {
	const kinds, long = 8, 5
	total := 1
	for range long {
		total *= kinds
	}
	d, _, was := used(t)
	for i := range total {
		d := d.Copy()
		r := &run{d: d, p: reopened(t, d), m: &model{blocks: was.blocks, writes: was.writes}, marks: []mark{{}}}
		r.m.begun(was.commit, was.lists, was.named)
		rest := i
		for range long {
			r.shortStep(t, rest%kinds)
			rest /= kinds
		}
		r.m.check(t, r.d, r.p)
		if t.Failed() {
			t.Fatalf("the row %o, its last call first", i)
		}
	}
}

// shortStep does one call of a few kinds.
func (r *run) shortStep(t testing.TB, kind int) {
	t.Helper()
	switch kind {
	case 0:
		r.m.doMake(t, r.p, 3, []byte("made"))
	case 1:
		r.m.doPut(t, r.p, 2, 4, []byte("put"))
	case 2:
		r.m.doDrop(t, r.p, 2)
	case 3:
		r.m.doDrop(t, r.p, 3)
	case 4:
		r.m.doCommit(t, r.p)
	case 5:
		r.marks = append(r.marks, r.m.doSave(t, r.p))
	case 6:
		r.m.doBack(t, r.p, r.marks[len(r.marks)-1])
	case 7:
		r.m.doAbort(r.p)
	}
}

// spoil writes over bytes, and over all that lies behind them in their memory.
func spoil(b []byte) {
	b = b[:cap(b)]
	for i := range b {
		b[i] ^= 255
	}
}

// spoilPages writes over numbers, and over all that lies behind them in their memory.
func spoilPages(l []uint32) {
	l = l[:cap(l)]
	for i := range l {
		l[i] ^= 1<<32 - 1
	}
}

// R3: bytes that are handed in aren't changed, nor is what lies behind them in memory, nor are they kept.
func TestHandedIn(t *testing.T) {
	for _, n := range []int{0, 1, 250, 500, 501} {
		d, p, m := made(t, 8)
		room := append(mixed(n, 1), mixed(600, 2)...)
		was := slices.Clone(room)
		m.doMake(t, p, 3, room[:n])
		m.doMake(t, p, 3, nil)
		m.doPut(t, p, 4, 3, room[:n])
		m.check(t, d, p)
		if !bytes.Equal(room, was) {
			t.Errorf("%d bytes were changed", n)
		}
		spoil(room)
		m.check(t, d, p)
		x := m.doSave(t, p)
		spoil(room)
		m.doMake(t, p, 3, room[:n])
		m.doPut(t, p, 3, 4, room[:n])
		was = slices.Clone(room)
		m.doBack(t, p, x)
		m.check(t, d, p)
		m.doCommit(t, p)
		if !bytes.Equal(room, was) {
			t.Errorf("%d bytes were changed", n)
		}
		spoil(room)
		m.check(t, d, p)
	}
}

// R3: bytes that were told are no one else's: neither the pager's, nor a mark's, nor another answer's.
func TestToldBytes(t *testing.T) {
	for _, n := range []int{0, 1, 250, 500} {
		d, p, m := made(t, 8)
		m.doMake(t, p, 3, mixed(n, 1))
		m.doCommit(t, p)
		m.doMake(t, p, 3, mixed(n, 2))
		x := m.doSave(t, p)
		for _, page := range []uint32{3, m.of("n")[0]} {
			_, first, _ := p.Read(page)
			_, second, _ := p.Read(page)
			was := slices.Clone(second)
			spoil(first)
			if !bytes.Equal(second, was) {
				t.Errorf("two answers of page %d share", page)
			}
			spoil(second)
			m.check(t, d, p)
		}
		m.doBack(t, p, x)
		m.check(t, d, p)
		m.doCommit(t, p)
		m.check(t, d, p)
	}
}

// R3: lists that were told are no one else's.
func TestToldLists(t *testing.T) {
	d, p, m := made(t, 250)
	for range 5 {
		m.doMake(t, p, 3, nil)
	}
	m.doCommit(t, p)
	m.doDrop(t, p, m.of("u")[0])
	m.doDrop(t, p, m.of("u")[0])
	m.doMake(t, p, 3, nil)
	m.doMake(t, p, 3, nil)
	lists := []func() []uint32{p.Free, p.Lists, p.Deferred, p.Fresh}
	x := m.doSave(t, p)
	for range 2 {
		for _, told := range lists {
			first, second := told(), told()
			was := slices.Clone(second)
			spoilPages(first)
			checkPages(t, "another answer", second, was)
			spoilPages(second)
			m.check(t, d, p)
		}
		m.doBack(t, p, x)
	}
	m.doCommit(t, p)
	for _, told := range lists {
		spoilPages(told())
	}
	m.check(t, d, p)
	m.doAbort(p)
	m.check(t, d, p)
	m.doCommit(t, p)
	m.check(t, d, reopened(t, d))
}

// P10.1, P10.2 and P10.3, of any row of calls.
func FuzzRows(f *testing.F) {
	f.Add([]byte{})
	f.Add([]byte{0, 7, 1, 2, 9, 1, 1, 1, 12, 6, 1, 4, 0, 12, 13, 2, 1, 1, 1, 1})
	f.Add(bytes.Repeat([]byte{0, 3, 0, 200, 10, 14, 0, 1, 1, 11, 1, 13, 1, 3, 2, 1, 7, 2}, 10))
	f.Fuzz(func(t *testing.T, b []byte) {
		next := func(n int) int {
			if len(b) == 0 {
				return 0
			}
			x := int(b[0])
			b = b[1:]
			if n > 256 && len(b) > 0 {
				x = x<<8 | int(b[0])
				b = b[1:]
			}
			return x % n
		}
		row(t, 8+next(5), min(len(b), 60), next)
	})
}

// P10.1 and P10.2, of any list: it is opened just when it is right by the chapter's words.
func FuzzOpen(f *testing.F) {
	f.Add(uint32(2), uint32(5), laidPart(0, 3, 4, 5, 6, 7), []byte{})
	f.Add(uint32(2), uint32(3), laidPart(3, 4, 5), laidPart(0, 7))
	f.Add(uint32(2), uint32(0), laidPart(2), laidPart(3))
	f.Add(uint32(3), uint32(1), laidPart(8), laidPart(2, 5))
	f.Fuzz(func(t *testing.T, list, free uint32, first, second []byte) {
		pages := map[uint32][]byte{}
		for i, body := range [][]byte{first, second} {
			n := uint32(i + 2)
			pages[n] = laidPage(n, 2, body[:min(len(body), 500)])
		}
		checkOpen(t, written(t, 8, api.Super{Seq: 1, Blocks: 8, List: list, Free: free}, pages))
	})
}
