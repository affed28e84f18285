package pager

import (
	"slices"

	"cashbook/api"
	"cashbook/disk"
	"cashbook/freelist"
	"cashbook/page"
	"cashbook/pool"
	"cashbook/super"
)

// supers is how many blocks supers stand in, by turns.
const supers = 2

// list is a free list: the pages that it stands in, in order, and those that it names, rising.
type list struct {
	pages, named []uint32
}

// readList reads the list of which a super tells, if it is right.
func readList(d *disk.Disk, s api.Super) (list, bool) {
	var l list
	in := pool.New()
	for n := s.List; n != noPage; {
		// Each once: else a list that goes round would never end.
		if n < firstPage || !in.Put(n) {
			return list{}, false
		}
		next, named, ok := readPart(d, n)
		if !ok {
			return list{}, false
		}
		l.pages = append(l.pages, n)
		l.named = append(l.named, named...)
		n = next
	}
	return l, uint32(len(l.named)) == s.Free && rising(l.named, s.Blocks) && !slices.ContainsFunc(l.named, in.Has)
}

// readPart reads a page of a list: the next page, and the numbers that it names, if it is one.
func readPart(d *disk.Disk, n uint32) (uint32, []uint32, bool) {
	// Behind the disk's end there is no block: that is the disk's error.
	b, err := d.Read(int(n))
	if err != api.OK {
		return 0, nil, false
	}
	kind, body, err := page.Open(n, b)
	if err != api.OK || kind != api.KindList {
		return 0, nil, false
	}
	next, named, err := freelist.Parse(body)
	return next, named, err == api.OK
}

// rising tells whether all are pages of a disk of so many blocks, each above the one ahead.
func rising(named []uint32, blocks uint32) bool {
	ahead := uint32(firstPage - 1)
	for _, n := range named {
		if n <= ahead || n >= blocks {
			return false
		}
		ahead = n
	}
	return true
}

// writeAll writes the transaction as a commit, at which the next one begins.
func (p *Pager) writeAll() api.Errno {
	l, ok := p.nextList()
	if !ok {
		return api.ErrFull
	}
	s := p.nextSuper(l)
	if err := p.write(s, l); err != api.OK {
		return p.end(err)
	}
	p.begin(s, l)
	return api.OK
}

// nextList is the free list of the next commit, if there is room for it.
func (p *Pager) nextList() (list, bool) {
	free := p.now.free.List()
	// These are needed till the super is safe: the list names them, but may not stand in them.
	needed := slices.Concat(p.lists, p.now.deferred.List())
	pages := freelist.Need(len(free) + len(needed))
	if pages > len(free) {
		return list{}, false
	}
	named := slices.Concat(free[pages:], needed)
	slices.Sort(named)
	return list{pages: free[:pages], named: named}, true
}

// nextSuper is what the super of the next commit says.
func (p *Pager) nextSuper(l list) api.Super {
	s := api.Super{Seq: p.commit.Seq + 1, Blocks: p.commit.Blocks, Free: uint32(len(l.named)), Roots: p.now.roots}
	if len(l.pages) > 0 {
		s.List = l.pages[0]
	}
	return s
}

// write writes a commit. The super goes last, and alone: when it is there, all that it tells of is safe.
func (p *Pager) write(s api.Super, l list) api.Errno {
	if err := p.writePages(l); err != api.OK {
		return err
	}
	if err := p.disk.Sync(); err != api.OK {
		return err
	}
	if err := p.disk.Write(int(s.Seq%supers), super.Write(s)); err != api.OK {
		return err
	}
	return p.disk.Sync()
}

// writePages writes the fresh pages, and those of the list.
func (p *Pager) writePages(l list) api.Errno {
	for _, n := range p.Fresh() {
		if err := p.writePage(n, p.now.fresh[n]); err != api.OK {
			return err
		}
	}
	// No error is looked at: a list that nextList made is right.
	bodies, _ := freelist.Bodies(l.named, l.pages)
	for i, body := range bodies {
		if err := p.writePage(l.pages[i], content{api.KindList, body}); err != api.OK {
			return err
		}
	}
	return api.OK
}

// writePage writes a page.
func (p *Pager) writePage(n uint32, c content) api.Errno {
	// No error is looked at: no body that is kept is too long.
	b, _ := page.Seal(n, c.kind, c.body)
	return p.disk.Write(int(n), b)
}
