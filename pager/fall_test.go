package pager

import (
	"bytes"
	"math/rand"
	"slices"
	"testing"

	"cashbook/api"
	"cashbook/disk"
)

// whole is a loss by which nothing is lost.
var whole = api.Loss{From: 0, To: 512}

// waiting are the writes that wait when a disk falls at the act k, and the blocks that are safe then.
func waiting(blocks [][]byte, acts []act, k int) ([]act, [][]byte) {
	safe := slices.Clone(blocks)
	var waits []act
	for i, a := range acts[:k+1] {
		switch {
		case a.n != isSync:
			waits = append(waits, a)
		case i < k:
			for _, w := range waits {
				safe[w.n] = w.b
			}
			waits = nil
		}
	}
	return waits, safe
}

// lost are blocks behind a crash.
func lost(safe [][]byte, waits []act, l []api.Loss) [][]byte {
	after := slices.Clone(safe)
	for i, w := range waits {
		if i >= len(l) {
			break
		}
		b := slices.Clone(after[w.n])
		for at := max(l[i].From, 0); at < min(l[i].To, 512); at++ {
			b[at] = w.b[at]
		}
		after[w.n] = b
	}
	return after
}

// losses are losses of every sort for so many writes: all lost, all kept, each one kept or lost alone, those up to each one kept, parts of each, and some by chance.
func losses(source *rand.Rand, waits int) [][]api.Loss {
	all := [][]api.Loss{nil, slices.Repeat([]api.Loss{whole}, waits), slices.Repeat([]api.Loss{{To: 256}}, waits), slices.Repeat([]api.Loss{{From: 256, To: 512}}, waits)}
	for i := range waits {
		kept := make([]api.Loss, waits)
		kept[i] = whole
		lost := slices.Repeat([]api.Loss{whole}, waits)
		lost[i] = api.Loss{}
		all = append(all, kept, lost, slices.Repeat([]api.Loss{whole}, i))
		for _, part := range []api.Loss{{To: 1}, {To: 12}, {To: 511}, {From: 1, To: 512}, {From: 4, To: 512}, {From: 100, To: 130}} {
			torn := slices.Clone(lost)
			torn[i] = part
			all = append(all, torn)
		}
	}
	for range 8 {
		l := make([]api.Loss, source.Intn(waits+2))
		for i := range l {
			l[i] = []api.Loss{{}, whole, {From: source.Intn(500), To: source.Intn(600)}}[source.Intn(3)]
		}
		all = append(all, l)
	}
	return all
}

// checkBehind is a disk that crashed, held against the blocks that it should have, and against what is opened of it: before or after, as a whole, and one of these alone is right.
func checkBehind(t testing.TB, d *disk.Disk, blocks [][]byte, before, after *model) {
	t.Helper()
	for n, b := range blocks {
		if !bytes.Equal(read(t, d, n), b) {
			t.Errorf("block %d isn't as the acts leave it", n)
		}
	}
	want := *before
	newest := int(after.commit.Seq % 2)
	if bytes.Equal(blocks[newest], after.blocks[newest]) {
		want = *after
	}
	want.blocks = blocks
	want.abort()
	p, err := Open(d)
	if err != api.OK {
		t.Fatalf("Open answers %d behind a crash", err)
	}
	want.checkTold(t, p)
	want.checkReads(t, p)
	checkParts(t, p, len(blocks))
	for n := range uint32(len(blocks)) {
		checkSame(t, p, n, before, after)
	}
	// What is opened goes on as any other one.
	want.writes = d.Writes()
	want.doMake(t, p, 7, []byte("more"))
	want.doRoot(t, p, 5, rootOf(5))
	want.doCommit(t, p)
	want.check(t, d, p)
}

// checkSame reads a page: what it says is what it says in the commit that the pager is at, of before and after.
func checkSame(t testing.TB, p *Pager, n uint32, before, after *model) {
	t.Helper()
	m := before
	if p.Seq() == after.commit.Seq {
		m = after
	}
	x := model{blocks: m.blocks}
	x.begun(m.commit, m.lists, m.named)
	x.checkRead(t, p, n)
}

// scenes are transactions, each of which is done to a disk of its own, up to its commit.
func scenes() map[string]func(t testing.TB) (*disk.Disk, *Pager, *model) {
	return map[string]func(t testing.TB) (*disk.Disk, *Pager, *model){
		"the first one": func(t testing.TB) (*disk.Disk, *Pager, *model) {
			d, p, m := made(t, 8)
			m.doMake(t, p, 3, []byte("one"))
			m.doMake(t, p, 4, mixed(500, 2))
			m.doRoot(t, p, 0, rootOf(4))
			return d, p, m
		},
		"roots alone": func(t testing.TB) (*disk.Disk, *Pager, *model) {
			d, p, m := used(t)
			m.doRoot(t, p, 7, rootOf(4))
			return d, p, m
		},
		"drops alone": func(t testing.TB) (*disk.Disk, *Pager, *model) {
			d, p, m := used(t)
			m.doDrop(t, p, 3)
			m.doDrop(t, p, 4)
			return d, p, m
		},
		"all of it, behind some commits": func(t testing.TB) (*disk.Disk, *Pager, *model) {
			d, p, m := used(t)
			for i := range 5 {
				m.doDrop(t, p, m.of("u")[0])
				m.doRoot(t, p, i, rootOf(m.doMake(t, p, byte(i), mixed(30*i, i))))
				m.doCommit(t, p)
			}
			m.doDrop(t, p, m.of("u")[1])
			m.doDrop(t, p, m.doMake(t, p, 3, nil))
			m.doMake(t, p, 9, mixed(99, 9))
			m.doMake(t, p, 9, mixed(98, 9))
			return d, p, m
		},
		"all that fits": func(t testing.TB) (*disk.Disk, *Pager, *model) {
			d, p, m := made(t, 9)
			for p.Room() > 1 {
				m.doMake(t, p, 3, mixed(50, p.Room()))
			}
			m.doCommit(t, p)
			m.doDrop(t, p, m.of("u")[0])
			return d, p, m
		},
		"a list of several pages": func(t testing.TB) (*disk.Disk, *Pager, *model) {
			d, p, m := made(t, 250)
			for i := range 5 {
				m.doMake(t, p, 3, mixed(50, i))
			}
			m.doCommit(t, p)
			m.doMake(t, p, 3, mixed(50, 7))
			m.doDrop(t, p, m.of("u")[2])
			return d, p, m
		},
	}
}

// P10.3, and P10.1's order of writes: falls at every act of a commit, with losses of every sort behind them, opened again.
func TestFallsOfCommits(t *testing.T) {
	for what, scene := range scenes() {
		d, p, m := scene(t)
		acts, after, err := m.commitActs()
		checkErr(t, what, err, api.OK)
		source := rand.New(rand.NewSource(3))
		for k := range acts {
			d, p, m := scene(t)
			d.Fuse(k)
			checkErr(t, "Commit", p.Commit(), api.ErrDown)
			checkOver(t, p)
			waits, safe := waiting(m.blocks, acts, k)
			if d.Waits() != len(waits) || !d.Down() {
				t.Fatalf("%s, act %d: %d writes wait, not %d", what, k, d.Waits(), len(waits))
			}
			for _, l := range losses(source, len(waits)) {
				c := d.Copy()
				c.Crash(l)
				checkBehind(t, c, lost(safe, waits, l), m, after)
				if t.Failed() {
					t.Fatalf("%s, act %d, losses %v", what, k, l)
				}
			}
		}
		d.Fuse(len(acts))
		m.doCommit(t, p)
		m.check(t, d, p)
		checkErr(t, "the next act", d.Sync(), api.ErrDown)
	}
}

// P10.3: a super that is torn at any byte, from ahead or from behind, isn't right: the commit ahead of it is there, or, where no byte is unlike, the whole one.
func TestTornSupers(t *testing.T) {
	for _, scene := range []string{"the first one", "all of it, behind some commits"} {
		d, p, m := scenes()[scene](t)
		acts, after, _ := m.commitActs()
		for _, k := range []int{len(acts) - 2, len(acts) - 1} {
			d, p, m = scenes()[scene](t)
			d.Fuse(k)
			checkErr(t, "Commit", p.Commit(), api.ErrDown)
			waits, safe := waiting(m.blocks, acts, k)
			for at := range 513 {
				for _, l := range []api.Loss{{From: 0, To: at}, {From: at, To: 512}, {From: at / 2, To: at}} {
					c := d.Copy()
					c.Crash([]api.Loss{l})
					checkBehind(t, c, lost(safe, waits, []api.Loss{l}), m, after)
					if t.Failed() {
						t.Fatalf("%s, act %d, loss %v", scene, k, l)
					}
				}
			}
		}
	}
}

// P10.3: a commit that was answered is there behind every crash, of whatever losses.
func TestAnsweredIsThere(t *testing.T) {
	for what, scene := range scenes() {
		for _, l := range [][]api.Loss{nil, {whole}, {{To: 100}, {From: 7, To: 300}, whole}, slices.Repeat([]api.Loss{whole}, 300)} {
			d, p, m := scene(t)
			m.doCommit(t, p)
			d.Crash(l)
			m.check(t, d, reopened(t, d))
			// Behind it there is a transaction that isn't committed: nothing of it is there.
			p = reopened(t, d)
			p.Make(3, []byte("lost"))
			p.SetRoot(0, rootOf(1<<20))
			for _, n := range m.of("u") {
				p.Drop(n)
			}
			d.Crash(l)
			m.check(t, d, reopened(t, d))
			if t.Failed() {
				t.Fatal(what)
			}
		}
	}
}

// P10.3: falls behind falls: a commit is tried again and again, each time one act more of it is done.
func TestFallsBehindFalls(t *testing.T) {
	for _, l := range [][]api.Loss{nil, {whole, whole, whole}, {{To: 300}, {From: 5, To: 512}}, {{}, whole}} {
		d, p, m := made(t, 20)
		m.doMake(t, p, 3, []byte("first"))
		m.doCommit(t, p)
		for k := 0; ; k++ {
			m.doDrop(t, p, m.of("u")[0])
			m.doMake(t, p, 3, mixed(77, k))
			m.doMake(t, p, 3, mixed(78, k))
			m.doRoot(t, p, 2, rootOf(uint32(k)+1))
			acts, after, _ := m.commitActs()
			if k == len(acts) {
				m.doCommit(t, p)
				m.check(t, d, p)
				break
			}
			d.Fuse(k)
			checkErr(t, "Commit", p.Commit(), api.ErrDown)
			waits, safe := waiting(m.blocks, acts, k)
			d.Crash(l)
			blocks := lost(safe, waits, l)
			if newest := after.commit.Seq % 2; bytes.Equal(blocks[newest], after.blocks[newest]) {
				m = after
			}
			m.blocks, m.writes = blocks, d.Writes()
			m.abort()
			p = reopened(t, d)
			m.check(t, d, p)
		}
	}
}

// P10.3, and P10.1's order of writes: falls at every act of a Format, of a new disk, with losses of every sort: it has no super, or the whole of the first commit.
func TestFallsOfFormats(t *testing.T) {
	for _, blocks := range []int{8, 126, 127, 250} {
		acts, after := formatActs(blocks)
		zeros := slices.Repeat([][]byte{make([]byte, 512)}, blocks)
		after.blocks = slices.Clone(zeros)
		for _, a := range acts {
			if a.n != isSync {
				after.blocks[a.n] = a.b
			}
		}
		source := rand.New(rand.NewSource(4))
		for k := range acts {
			d, _ := disk.New(blocks)
			d.Fuse(k)
			checkErr(t, "Format", Format(d), api.ErrDown)
			waits, safe := waiting(zeros, acts, k)
			if d.Waits() != len(waits) || !d.Down() {
				t.Fatalf("act %d: %d writes wait, not %d", k, d.Waits(), len(waits))
			}
			for _, l := range losses(source, len(waits)) {
				c := d.Copy()
				c.Crash(l)
				left := lost(safe, waits, l)
				if bytes.Equal(left[1], after.blocks[1]) {
					checkBehind(t, c, left, after, after)
				} else {
					checkOpens(t, "a Format that fell", c, api.ErrNone)
				}
				if t.Failed() {
					t.Fatalf("act %d, losses %v", k, l)
				}
			}
		}
		d, _ := disk.New(blocks)
		d.Fuse(len(acts))
		checkErr(t, "Format", Format(d), api.OK)
		checkErr(t, "the next act", d.Sync(), api.ErrDown)
	}
}

// P10.3: falls at every act of a Format of a disk that was used: its blocks are as the acts leave them; behind the first Sync no super of what it was is there any more.
func TestFallsOfFormatsOfUsedDisks(t *testing.T) {
	acts, after := formatActs(9)
	source := rand.New(rand.NewSource(5))
	for k := range acts {
		d, _, m := used(t)
		d.Fuse(k)
		checkErr(t, "Format", Format(d), api.ErrDown)
		waits, safe := waiting(m.blocks, acts, k)
		for _, l := range losses(source, len(waits)) {
			c := d.Copy()
			c.Crash(l)
			left := lost(safe, waits, l)
			for n, b := range left {
				if !bytes.Equal(read(t, c, n), b) {
					t.Errorf("block %d isn't as the acts leave it", n)
				}
			}
			err := checkOpen(t, c)
			if k > 2 && err == api.OK {
				p := reopened(t, c)
				if p.Seq() != 1 || len(p.Free()) != len(after.named) {
					t.Errorf("Seq %d", p.Seq())
				}
			}
			if k > 2 && k < len(acts)-2 && err != api.ErrNone {
				t.Errorf("a super is there: %d", err)
			}
			if t.Failed() {
				t.Fatalf("act %d, losses %v", k, l)
			}
			checkErr(t, "Format", Format(c), api.OK)
			if q := reopened(t, c); q.Seq() != 1 || q.Room() != 6 {
				t.Errorf("Seq %d, Room %d", q.Seq(), q.Room())
			}
		}
	}
}
