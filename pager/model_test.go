package pager

import (
	"bytes"
	"encoding/binary"
	"hash/crc32"
	"maps"
	"slices"
	"testing"

	"cashbook/api"
	"cashbook/disk"
)

// sizes are how many blocks disks have whose lists take one page, just one, just two, and many.
func sizes() []int { return []int{8, 9, 125, 126, 127, 250, 4096} }

// The sorts of pages.
const (
	inUse    = 'u'
	isFree   = 'f'
	isListed = 'l'
	isFresh  = 'n'
	deferred = 'd'
)

// said is what a page says.
type said struct {
	kind byte
	body []byte
}

// laidPage are a page's bytes by the words of chapter 6.
func laidPage(n uint32, kind byte, body []byte) []byte {
	b := binary.BigEndian.AppendUint32(nil, n)
	b = append(b, kind)
	b = binary.BigEndian.AppendUint16(b, uint16(len(body)))
	b = append(append(b, 0), body...)
	b = append(b, make([]byte, 508-len(b))...)
	return append(sumOf(b), b...)
}

// sumOf is a sum's bytes.
func sumOf(b []byte) []byte {
	return binary.BigEndian.AppendUint32(nil, crc32.Checksum(b, crc32.MakeTable(crc32.Castagnoli)))
}

// opened is what a block says as the page n, by the words of chapter 6.
func opened(n uint32, b []byte) (said, api.Errno) {
	if !bytes.Equal(b[:4], sumOf(b[4:])) {
		return said{}, api.ErrSum
	}
	if binary.BigEndian.Uint32(b[4:]) != n {
		return said{}, api.ErrRange
	}
	long := int(binary.BigEndian.Uint16(b[9:]))
	if long > 500 || !bytes.Equal(b, laidPage(n, b[8], b[12:12+long])) {
		return said{}, api.ErrForm
	}
	return said{b[8], slices.Clone(b[12 : 12+long])}, api.OK
}

// laidSuper is a super's page by the words of chapter 7.
func laidSuper(s api.Super) []byte {
	b := binary.BigEndian.AppendUint64(nil, s.Seq)
	for _, n := range []uint32{s.Blocks, s.List, s.Free} {
		b = binary.BigEndian.AppendUint32(b, n)
	}
	for _, r := range s.Roots {
		for _, n := range []uint32{r.Page, r.Count, r.Height} {
			b = binary.BigEndian.AppendUint32(b, n)
		}
	}
	return laidPage(uint32(s.Seq%2), 1, b)
}

// laidPart is the body of a list's page by the words of chapter 9.
func laidPart(next uint32, named ...uint32) []byte {
	b := binary.BigEndian.AppendUint32(nil, next)
	b = binary.BigEndian.AppendUint16(b, uint16(len(named)))
	for _, n := range named {
		b = binary.BigEndian.AppendUint32(b, n)
	}
	return b
}

// act is a write, or, below 0, a sync.
type act struct {
	n int
	b []byte
}

// isSync is the place of an act that makes all safe.
const isSync = -1

// listActs are the writes of a list.
func listActs(pages, named []uint32) []act {
	var all []act
	for i, n := range pages {
		next := uint32(0)
		if i+1 < len(pages) {
			next = pages[i+1]
		}
		part := named[min(123*i, len(named)):min(123*i+123, len(named))]
		all = append(all, act{int(n), laidPage(n, 2, laidPart(next, part...))})
	}
	return all
}

// needOf is the least number of pages that name as many as are left.
func needOf(free int) int {
	k := 0
	for 123*k < free-k {
		k++
	}
	return k
}

// model is a pager by the chapter's words, and the blocks of its disk.
type model struct {
	blocks [][]byte
	writes int
	commit api.Super
	lists  []uint32
	named  []uint32
	round  int
	over   bool
	point
}

// point is how far a transaction is.
type point struct {
	roots [8]api.Root
	sorts []byte
	fresh map[uint32]said
}

// mark is a mark, and what it should go back to.
type mark struct {
	m     *Mark
	of    *model
	round int
	point point
}

func (x point) copied() point {
	return point{x.roots, slices.Clone(x.sorts), maps.Clone(x.fresh)}
}

// begun lets a model begin at a commit.
func (m *model) begun(s api.Super, lists, named []uint32) {
	m.commit, m.lists, m.named = s, lists, named
	m.abort()
}

func (m *model) abort() {
	m.round++
	m.point = point{m.commit.Roots, bytes.Repeat([]byte{inUse}, len(m.blocks)), map[uint32]said{}}
	for _, n := range m.named {
		m.sorts[n] = isFree
	}
	for _, n := range m.lists {
		m.sorts[n] = isListed
	}
}

// of are the pages of some sorts, rising.
func (m *model) of(sorts string) []uint32 {
	var all []uint32
	for n := 2; n < len(m.sorts); n++ {
		if bytes.IndexByte([]byte(sorts), m.sorts[n]) >= 0 {
			all = append(all, uint32(n))
		}
	}
	return all
}

// has tells whether a page is of one of some sorts.
func (m *model) has(n uint32, sorts string) bool { return slices.Contains(m.of(sorts), n) }

// formatActs are what a Format does to a disk, and the super that it writes.
func formatActs(blocks int) ([]act, *model) {
	m := &model{blocks: make([][]byte, blocks)}
	var pages, named []uint32
	for n := 2; n < blocks; n++ {
		if n-2 < needOf(blocks-2) {
			pages = append(pages, uint32(n))
		} else {
			named = append(named, uint32(n))
		}
	}
	s := api.Super{Seq: 1, Blocks: uint32(blocks), List: 2, Free: uint32(len(named))}
	m.begun(s, pages, named)
	acts := []act{{0, make([]byte, 512)}, {1, make([]byte, 512)}, {isSync, nil}}
	acts = append(acts, listActs(pages, named)...)
	return append(acts, act{isSync, nil}, act{1, laidSuper(s)}, act{isSync, nil}), m
}

// commitActs are what a Commit does, and the model behind it; or its error.
func (m *model) commitActs() ([]act, *model, api.Errno) {
	if len(m.of("nd")) == 0 && m.roots == m.commit.Roots {
		return nil, m, api.OK
	}
	free, all := m.of("f"), m.of("fdl")
	k := needOf(len(all))
	if k > len(free) {
		return nil, m, api.ErrFull
	}
	pages := free[:k]
	named := slices.DeleteFunc(all, func(n uint32) bool { return slices.Contains(pages, n) })
	s := api.Super{Seq: m.commit.Seq + 1, Blocks: m.commit.Blocks, Free: uint32(len(named)), Roots: m.roots}
	if k > 0 {
		s.List = pages[0]
	}
	var acts []act
	for _, n := range m.of("n") {
		acts = append(acts, act{int(n), laidPage(n, m.fresh[n].kind, m.fresh[n].body)})
	}
	acts = append(acts, listActs(pages, named)...)
	acts = append(acts, act{isSync, nil}, act{int(s.Seq % 2), laidSuper(s)}, act{isSync, nil})
	after := &model{blocks: slices.Clone(m.blocks), writes: m.writes, round: m.round}
	for _, a := range acts {
		if a.n != isSync {
			after.blocks[a.n] = a.b
			after.writes++
		}
	}
	after.begun(s, pages, named)
	return acts, after, api.OK
}

// read is what a block of a disk is.
func read(t testing.TB, d *disk.Disk, n int) []byte {
	t.Helper()
	b, err := d.Read(n)
	if err != api.OK {
		t.Fatalf("block %d: %d", n, err)
	}
	return b
}

// made is a disk of so many blocks, formatted, with a pager, and what that should be.
func made(t testing.TB, blocks int) (*disk.Disk, *Pager, *model) {
	t.Helper()
	d, _ := disk.New(blocks)
	if err := Format(d); err != api.OK {
		t.Fatalf("Format answers %d", err)
	}
	acts, m := formatActs(blocks)
	for n := range m.blocks {
		m.blocks[n] = make([]byte, 512)
	}
	for _, a := range acts {
		if a.n != isSync {
			m.blocks[a.n] = a.b
			m.writes++
		}
	}
	return d, reopened(t, d), m
}

// reopened is a pager of a disk.
func reopened(t testing.TB, d *disk.Disk) *Pager {
	t.Helper()
	p, err := Open(d)
	if err != api.OK || p == nil {
		t.Fatalf("Open answers %d", err)
	}
	return p
}

// checkErr holds an error against what it should be.
func checkErr(t testing.TB, what string, got, want api.Errno) {
	t.Helper()
	if got != want {
		t.Errorf("%s answers %d, not %d", what, got, want)
	}
}

// checkPages holds pages against those that they should be.
func checkPages(t testing.TB, what string, got, want []uint32) {
	t.Helper()
	if !slices.Equal(got, want) {
		t.Errorf("%s: %v, not %v", what, got, want)
	}
}

// check holds all that a pager tells, and its disk, against what they should be.
func (m *model) check(t testing.TB, d *disk.Disk, p *Pager) {
	t.Helper()
	if m.over {
		checkOver(t, p)
		return
	}
	m.checkTold(t, p)
	m.checkReads(t, p)
	checkParts(t, p, len(m.blocks))
	m.checkDisk(t, d)
	if t.Failed() {
		t.FailNow()
	}
}

// checkTold holds what a pager tells of itself against what it should be.
func (m *model) checkTold(t testing.TB, p *Pager) {
	t.Helper()
	if p.Seq() != m.commit.Seq || p.Blocks() != len(m.blocks) || p.Room() != len(m.of("f")) {
		t.Errorf("Seq %d, Blocks %d, Room %d, not %d, %d, %d", p.Seq(), p.Blocks(), p.Room(), m.commit.Seq, len(m.blocks), len(m.of("f")))
	}
	for i := -1; i <= 8; i++ {
		var want api.Root
		if i >= 0 && i < 8 {
			want = m.roots[i]
		}
		if r := p.Root(i); r != want {
			t.Errorf("Root(%d) is %v, not %v", i, r, want)
		}
	}
	checkPages(t, "Free", p.Free(), m.of("f"))
	checkPages(t, "Lists", p.Lists(), m.lists)
	checkPages(t, "Deferred", p.Deferred(), m.of("d"))
	checkPages(t, "Fresh", p.Fresh(), m.of("n"))
}

// checkReads reads all pages, and some that aren't there.
func (m *model) checkReads(t testing.TB, p *Pager) {
	t.Helper()
	for n := range uint32(len(m.blocks)) {
		m.checkRead(t, p, n)
	}
	for _, n := range []uint32{uint32(len(m.blocks)), uint32(len(m.blocks)) + 1, 1 << 16, 1 << 31, 1<<32 - 1} {
		m.checkRead(t, p, n)
	}
}

// checkRead reads a page, and holds it against what it should say.
func (m *model) checkRead(t testing.TB, p *Pager, n uint32) {
	t.Helper()
	want, wantErr := said{}, api.ErrState
	if n >= 2 && n < uint32(len(m.blocks)) {
		switch m.sorts[n] {
		case isFresh:
			want, wantErr = m.fresh[n], api.OK
		case inUse:
			want, wantErr = opened(n, m.blocks[n])
		}
	}
	kind, body, err := p.Read(n)
	if kind != want.kind || !bytes.Equal(body, want.body) || err != wantErr {
		t.Errorf("Read(%d) answers %d, %.10v and %d, not %d, %.10v and %d", n, kind, body, err, want.kind, want.body, wantErr)
	}
}

// checkParts is P10.2: each page is just one of free, deferred, fresh, in use, of the list.
func checkParts(t testing.TB, p *Pager, blocks int) {
	t.Helper()
	held := make([]int, blocks)
	for _, l := range [][]uint32{p.Free(), p.Deferred(), p.Fresh(), p.Lists()} {
		for _, n := range l {
			if n < 2 || int(n) >= blocks {
				t.Errorf("%d is no page", n)
				continue
			}
			held[n]++
		}
	}
	fresh := p.Fresh()
	for n := uint32(2); int(n) < blocks; n++ {
		_, _, err := p.Read(n)
		if err != api.ErrState && !slices.Contains(fresh, n) {
			held[n]++
		}
		if held[n] != 1 {
			t.Errorf("page %d is %d of free, deferred, fresh, in use, of the list", n, held[n])
		}
	}
}

// checkDisk holds the blocks of a disk that is up against what they should be.
func (m *model) checkDisk(t testing.TB, d *disk.Disk) {
	t.Helper()
	if d.Waits() != 0 || d.Writes() != m.writes {
		t.Errorf("%d writes wait, %d were done, not 0 and %d", d.Waits(), d.Writes(), m.writes)
	}
	for n, want := range m.blocks {
		if b := read(t, d, n); !bytes.Equal(b, want) {
			t.Errorf("block %d is %.30v .., not %.30v ..", n, b, want)
		}
	}
}

// checkOver asks every call of a pager that is over.
func checkOver(t testing.TB, p *Pager) {
	t.Helper()
	if p.Seq() != 0 || p.Blocks() != 0 || p.Room() != 0 || p.Save() != nil {
		t.Errorf("over, but Seq %d, Blocks %d, Room %d", p.Seq(), p.Blocks(), p.Room())
	}
	for _, l := range [][]uint32{p.Free(), p.Lists(), p.Deferred(), p.Fresh()} {
		checkPages(t, "over", l, nil)
	}
	for i := -1; i <= 8; i++ {
		if p.Root(i) != (api.Root{}) {
			t.Errorf("over, but Root(%d) is %v", i, p.Root(i))
		}
		checkErr(t, "SetRoot", p.SetRoot(i, api.Root{Page: 2, Count: 1, Height: 1}), api.ErrDown)
	}
	for _, n := range []uint32{0, 1, 2, 3, 4, 5, 7, 8, 1<<32 - 1} {
		kind, body, err := p.Read(n)
		checkErr(t, "Read", err, api.ErrDown)
		if kind != 0 || len(body) != 0 {
			t.Errorf("over, but Read(%d) tells %d and %v", n, kind, body)
		}
		checkErr(t, "Put", p.Put(n, 3, []byte("x")), api.ErrDown)
		checkErr(t, "Put", p.Put(n, 3, make([]byte, 501)), api.ErrDown)
		checkErr(t, "Drop", p.Drop(n), api.ErrDown)
	}
	for _, body := range [][]byte{nil, {1}, make([]byte, 501)} {
		n, err := p.Make(3, body)
		checkErr(t, "Make", err, api.ErrDown)
		if n != 0 {
			t.Errorf("over, but Make tells %d", n)
		}
	}
	checkErr(t, "Commit", p.Commit(), api.ErrDown)
	checkErr(t, "Back", p.Back(nil), api.ErrDown)
	checkErr(t, "Back", p.Back(&Mark{}), api.ErrDown)
	p.Abort()
	if p.Room() != 0 || p.Seq() != 0 || p.Save() != nil {
		t.Error("over, but not behind an Abort")
	}
}

// doMake makes a page.
func (m *model) doMake(t testing.TB, p *Pager, kind byte, body []byte) uint32 {
	t.Helper()
	want, wantErr := uint32(0), api.OK
	free := m.of("f")
	switch {
	case len(body) > 500:
		wantErr = api.ErrLong
	case len(free) == 0:
		wantErr = api.ErrFull
	default:
		want = free[0]
		m.sorts[want] = isFresh
		m.fresh[want] = said{kind, slices.Clone(body)}
	}
	n, err := p.Make(kind, body)
	if n != want || err != wantErr {
		t.Errorf("Make of %d bytes answers %d and %d, not %d and %d", len(body), n, err, want, wantErr)
	}
	return n
}

// doPut puts a page.
func (m *model) doPut(t testing.TB, p *Pager, n uint32, kind byte, body []byte) {
	t.Helper()
	want := api.OK
	switch {
	case !m.has(n, "n"):
		want = api.ErrState
	case len(body) > 500:
		want = api.ErrLong
	default:
		m.fresh[n] = said{kind, slices.Clone(body)}
	}
	if err := p.Put(n, kind, body); err != want {
		t.Errorf("Put(%d) of %d bytes answers %d, not %d", n, len(body), err, want)
	}
}

// doDrop drops a page.
func (m *model) doDrop(t testing.TB, p *Pager, n uint32) {
	t.Helper()
	want := api.OK
	switch {
	case m.has(n, "n"):
		m.sorts[n] = isFree
		delete(m.fresh, n)
	case m.has(n, "u"):
		m.sorts[n] = deferred
	default:
		want = api.ErrState
	}
	if err := p.Drop(n); err != want {
		t.Errorf("Drop(%d) answers %d, not %d", n, err, want)
	}
}

// doRoot sets a root.
func (m *model) doRoot(t testing.TB, p *Pager, i int, r api.Root) {
	t.Helper()
	want := api.ErrRange
	if i >= 0 && i < 8 {
		m.roots[i] = r
		want = api.OK
	}
	if err := p.SetRoot(i, r); err != want {
		t.Errorf("SetRoot(%d) answers %d, not %d", i, err, want)
	}
}

// doCommit commits, on a disk that doesn't fall.
func (m *model) doCommit(t testing.TB, p *Pager) {
	t.Helper()
	_, after, want := m.commitActs()
	*m = *after
	checkErr(t, "Commit", p.Commit(), want)
}

// doAbort aborts.
func (m *model) doAbort(p *Pager) {
	m.abort()
	p.Abort()
}

// doSave is a mark, and what it should go back to.
func (m *model) doSave(t testing.TB, p *Pager) mark {
	t.Helper()
	x := mark{p.Save(), m, m.round, m.copied()}
	if x.m == nil {
		t.Error("Save tells nil")
	}
	return x
}

// doBack goes back to a mark.
func (m *model) doBack(t testing.TB, p *Pager, x mark) {
	t.Helper()
	want := api.ErrState
	if x.m != nil && x.of == m && x.round == m.round {
		m.point = x.point.copied()
		want = api.OK
	}
	checkErr(t, "Back", p.Back(x.m), want)
}
