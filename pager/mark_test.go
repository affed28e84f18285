package pager

import (
	"testing"

	"cashbook/api"
	"cashbook/disk"
)

// used is a disk of nine blocks with two pages in use, its pager and its model.
func used(t testing.TB) (*disk.Disk, *Pager, *model) {
	t.Helper()
	d, p, m := made(t, 9)
	m.doMake(t, p, 3, []byte("one"))
	m.doMake(t, p, 4, []byte("two"))
	m.doRoot(t, p, 0, rootOf(3))
	m.doCommit(t, p)
	return d, p, m
}

// changes are what a transaction may do, each one something else.
func changes() []func(testing.TB, *model, *Pager) {
	return []func(testing.TB, *model, *Pager){
		func(t testing.TB, m *model, p *Pager) { m.doMake(t, p, 5, []byte("made")) },
		func(t testing.TB, m *model, p *Pager) { m.doPut(t, p, 2, 6, []byte("put")) },
		func(t testing.TB, m *model, p *Pager) { m.doDrop(t, p, 3) },
		func(t testing.TB, m *model, p *Pager) { m.doRoot(t, p, 0, rootOf(9)) },
		func(t testing.TB, m *model, p *Pager) { m.doDrop(t, p, 2) },
		func(t testing.TB, m *model, p *Pager) { m.doRoot(t, p, 7, rootOf(2)); m.doDrop(t, p, 4) },
	}
}

// P10.1: a mark ahead of each of some changes: all are gone back to, more than once, in every order of two.
func TestMarks(t *testing.T) {
	d, p, m := used(t)
	marks := []mark{m.doSave(t, p)}
	for _, do := range changes() {
		do(t, m, p)
		m.check(t, d, p)
		marks = append(marks, m.doSave(t, p))
	}
	for _, first := range marks {
		for _, second := range marks {
			m.doBack(t, p, first)
			m.check(t, d, p)
			m.doBack(t, p, second)
			m.check(t, d, p)
			m.doBack(t, p, second)
			m.check(t, d, p)
		}
	}
}

// P10.1: a mark is as it was, whatever is done behind it, and behind it was gone back to.
func TestMarksAreCopies(t *testing.T) {
	for i := range changes() {
		d, p, m := used(t)
		for _, do := range changes()[:i] {
			do(t, m, p)
		}
		x := m.doSave(t, p)
		for range 3 {
			for _, do := range changes()[i:] {
				do(t, m, p)
			}
			m.doMake(t, p, 3, nil)
			m.check(t, d, p)
			m.doBack(t, p, x)
			m.check(t, d, p)
			for _, do := range changes() {
				do(t, m, p)
			}
			m.doBack(t, p, x)
			m.check(t, d, p)
		}
		m.doCommit(t, p)
		m.check(t, d, p)
	}
}

// P10.1: behind Back what was done since is not committed.
func TestBackThenCommit(t *testing.T) {
	for i := range len(changes()) + 1 {
		d, p, m := used(t)
		for _, do := range changes()[:i] {
			do(t, m, p)
		}
		x := m.doSave(t, p)
		for _, do := range changes() {
			do(t, m, p)
		}
		m.doBack(t, p, x)
		m.doCommit(t, p)
		m.check(t, d, p)
		m.check(t, d, reopened(t, d))
	}
}

// P10.1: a mark made behind one that was gone back to, and marks of a state that is gone, are as good as any.
func TestMarksOfGoneStates(t *testing.T) {
	d, p, m := used(t)
	first := m.doSave(t, p)
	m.doMake(t, p, 3, []byte("a"))
	second := m.doSave(t, p)
	m.doBack(t, p, first)
	m.doMake(t, p, 3, []byte("b"))
	m.doMake(t, p, 3, []byte("c"))
	third := m.doSave(t, p)
	for _, x := range []mark{second, third, first, third, second, first} {
		m.doBack(t, p, x)
		m.check(t, d, p)
	}
	m.doMake(t, p, 3, []byte("d"))
	m.doBack(t, p, second)
	m.doCommit(t, p)
	m.check(t, d, p)
}

// P10.1: behind a commit that wrote something, or an Abort, no mark made ahead of it is gone back to, and nothing has changed; behind a commit that wrote nothing, or found no room, each is.
func TestMarksOfOtherTransactions(t *testing.T) {
	ends := []struct {
		do   func(testing.TB, *model, *Pager)
		ends bool
	}{
		{func(t testing.TB, m *model, p *Pager) { m.doMake(t, p, 3, nil); m.doCommit(t, p) }, true},
		{func(t testing.TB, m *model, p *Pager) { m.doRoot(t, p, 1, rootOf(1)); m.doCommit(t, p) }, true},
		{func(t testing.TB, m *model, p *Pager) { m.doDrop(t, p, 3); m.doCommit(t, p) }, true},
		{func(t testing.TB, m *model, p *Pager) { m.doAbort(p) }, true},
		{func(t testing.TB, m *model, p *Pager) { m.doMake(t, p, 3, nil); m.doAbort(p) }, true},
		{func(t testing.TB, m *model, p *Pager) { m.doCommit(t, p) }, false},
		{func(t testing.TB, m *model, p *Pager) { m.doCommit(t, p); m.doCommit(t, p) }, false},
		{func(t testing.TB, m *model, p *Pager) { m.doDrop(t, p, m.doMake(t, p, 3, nil)); m.doCommit(t, p) }, false},
		{func(t testing.TB, m *model, p *Pager) {
			for p.Room() > 0 {
				m.doMake(t, p, 3, nil)
			}
			m.doCommit(t, p)
		}, false},
	}
	for i, e := range ends {
		d, p, m := used(t)
		first := m.doSave(t, p)
		second := m.doSave(t, p)
		e.do(t, m, p)
		m.doMake(t, p, 9, []byte("behind"))
		behind := m.doSave(t, p)
		m.doDrop(t, p, 3)
		for _, x := range []mark{first, second, first} {
			want := api.OK
			if e.ends {
				want = api.ErrState
			}
			if err := p.Back(x.m); err != want {
				t.Errorf("end %d: Back answers %d, not %d", i, err, want)
			}
			if !e.ends {
				m.point = x.point.copied()
			}
			m.check(t, d, p)
		}
		m.doBack(t, p, behind)
		m.check(t, d, p)
	}
}

// P10.1: the transaction in which a mark was made has ended also where the one behind it is in just the same state.
func TestMarksBehindTheSameState(t *testing.T) {
	d, p, m := made(t, 8)
	x := m.doSave(t, p)
	m.doAbort(p)
	checkErr(t, "Back", p.Back(x.m), api.ErrState)
	for range 4 {
		m.doRoot(t, p, 0, rootOf(uint32(p.Seq()%2)))
		m.doCommit(t, p)
		checkErr(t, "Back", p.Back(x.m), api.ErrState)
		m.check(t, d, p)
	}
}

// P10.1: no mark, one that no Save made, and those of other pagers: of the same disk, and of one that is just the same.
func TestOtherMarks(t *testing.T) {
	d, p, m := used(t)
	_, q, o := used(t)
	r := reopened(t, d)
	m.doMake(t, p, 3, []byte("p"))
	o.doMake(t, q, 3, []byte("p"))
	for _, x := range []*Mark{nil, {}, q.Save(), r.Save(), reopened(t, d.Copy()).Save()} {
		for range 2 {
			checkErr(t, "Back", p.Back(x), api.ErrState)
			m.check(t, d, p)
		}
	}
	x := m.doSave(t, p)
	checkErr(t, "Back", q.Back(x.m), api.ErrState)
	checkErr(t, "Back", r.Back(x.m), api.ErrState)
	m.doAbort(p)
	checkErr(t, "Back", p.Back(nil), api.ErrState)
	m.check(t, d, p)
}
