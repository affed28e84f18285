package pager

import (
	"bytes"
	"encoding/binary"
	"math/rand"
	"slices"
	"testing"

	"cashbook/api"
	"cashbook/disk"
)

// superOf is the super of a block, by the words of chapter 7.
func superOf(place int, b []byte) (api.Super, bool) {
	x, err := opened(uint32(place), b)
	if err != api.OK || x.kind != 1 || len(x.body) != 116 {
		return api.Super{}, false
	}
	word := func(at int) uint32 { return binary.BigEndian.Uint32(x.body[at:]) }
	s := api.Super{Seq: binary.BigEndian.Uint64(x.body), Blocks: word(8), List: word(12), Free: word(16)}
	for i := range s.Roots {
		s.Roots[i] = api.Root{Page: word(20 + 12*i), Count: word(24 + 12*i), Height: word(28 + 12*i)}
	}
	return s, s.Seq%2 == uint64(place)
}

// byWords is what Open should answer of a disk that is up, by the chapter's words.
func byWords(blocks [][]byte) (*model, api.Errno) {
	s, ok := superOf(0, blocks[0])
	other, otherOK := superOf(1, blocks[1])
	if !ok && !otherOK {
		return nil, api.ErrNone
	}
	if !ok || otherOK && other.Seq > s.Seq {
		s = other
	}
	if int(s.Blocks) != len(blocks) {
		return nil, api.ErrForm
	}
	var lists, named []uint32
	for n := s.List; n != 0; {
		if n < 2 || n >= s.Blocks || slices.Contains(lists, n) {
			return nil, api.ErrForm
		}
		x, err := opened(n, blocks[n])
		if err != api.OK || x.kind != 2 || len(x.body) < 6 {
			return nil, api.ErrForm
		}
		many := int(binary.BigEndian.Uint16(x.body[4:]))
		if many > 123 || len(x.body) != 6+4*many {
			return nil, api.ErrForm
		}
		for i := range many {
			named = append(named, binary.BigEndian.Uint32(x.body[6+4*i:]))
		}
		lists = append(lists, n)
		n = binary.BigEndian.Uint32(x.body)
	}
	for i, n := range named {
		if n < 2 || n >= s.Blocks || i > 0 && n <= named[i-1] || slices.Contains(lists, n) {
			return nil, api.ErrForm
		}
	}
	if len(named) != int(s.Free) {
		return nil, api.ErrForm
	}
	m := &model{blocks: blocks}
	m.begun(s, lists, named)
	return m, api.OK
}

// blocksOf are a disk's blocks.
func blocksOf(t testing.TB, d *disk.Disk) [][]byte {
	t.Helper()
	var all [][]byte
	for n := range d.Blocks() {
		all = append(all, read(t, d, n))
	}
	return all
}

// checkOpen opens a disk that is up: the answer is the one by the chapter's words, and nothing is written.
func checkOpen(t testing.TB, d *disk.Disk) api.Errno {
	t.Helper()
	before, waits, writes := blocksOf(t, d), d.Waits(), d.Writes()
	m, want := byWords(before)
	p, err := Open(d)
	if err != want || (p == nil) != (want != api.OK) {
		t.Errorf("Open answers %d, not %d", err, want)
	} else if err == api.OK {
		m.checkTold(t, p)
		m.checkReads(t, p)
		checkParts(t, p, len(before))
	}
	if d.Waits() != waits || d.Writes() != writes {
		t.Errorf("%d writes behind Open, %d wait", d.Writes()-writes, d.Waits()-waits)
	}
	for n, b := range blocksOf(t, d) {
		if !bytes.Equal(b, before[n]) {
			t.Errorf("block %d has changed", n)
		}
	}
	return want
}

// checkOpens is checkOpen of a disk whose answer is known.
func checkOpens(t testing.TB, what string, d *disk.Disk, want api.Errno) {
	t.Helper()
	if err := checkOpen(t, d); err != want {
		t.Errorf("%s: Open should answer %d, not %d", what, err, want)
	}
	if t.Failed() {
		t.Fatal(what)
	}
}

// written is a disk of some blocks; those that aren't given are bytes 0.
func written(t testing.TB, blocks int, s api.Super, pages map[uint32][]byte) *disk.Disk {
	t.Helper()
	d, err := disk.New(blocks)
	if err != api.OK {
		t.Fatal(err)
	}
	d.Write(int(s.Seq%2), laidSuper(s))
	for n, b := range pages {
		d.Write(int(n), b)
	}
	d.Sync()
	return d
}

// parts are pages of a list, by the words of chapter 9, that name some numbers each.
func parts(pages []uint32, named ...[]uint32) map[uint32][]byte {
	all := map[uint32][]byte{}
	for i, n := range pages {
		next := uint32(0)
		if i+1 < len(pages) {
			next = pages[i+1]
		}
		all[n] = laidPage(n, 2, laidPart(next, named[i]...))
	}
	return all
}

// P10.1: a disk that is down: ErrDown, whatever it has, and however it fell.
func TestOpenDown(t *testing.T) {
	d, _ := disk.New(8)
	e, p, _ := made(t, 8)
	p.Make(3, nil)
	e.Fuse(2)
	p.Commit()
	for _, x := range []*disk.Disk{d, e} {
		x.Fuse(0)
		x.Sync()
		writes := x.Writes()
		if p, err := Open(x); p != nil || err != api.ErrDown {
			t.Errorf("Open answers %v and %d", p != nil, err)
		}
		checkErr(t, "Format", Format(x), api.ErrDown)
		if x.Writes() != writes || !x.Down() {
			t.Error("written, or up")
		}
	}
	d.Crash(nil)
	e.Crash(nil)
	checkOpens(t, "of bytes 0", d, api.ErrNone)
	checkOpens(t, "formatted", e, api.OK)
}

// P10.1: disks without a super.
func TestOpenNone(t *testing.T) {
	for _, blocks := range sizes() {
		d, _ := disk.New(blocks)
		checkOpens(t, "of bytes 0", d, api.ErrNone)
	}
	s := api.Super{Seq: 4, Blocks: 8, List: 2, Free: 5}
	right := laidSuper(s)
	for _, c := range []struct {
		what  string
		place int
		b     []byte
	}{
		{"another place", 1, right},
		{"another block", 3, right},
		{"another kind", 0, laidPage(0, 2, right[12:128])},
		{"shorter", 0, laidPage(0, 1, right[12:127])},
		{"longer", 0, laidPage(0, 1, right[12:129])},
		{"another turn", 0, laidPage(0, 1, append([]byte{0, 0, 0, 0, 0, 0, 0, 5}, right[20:128]...))},
		{"changed", 0, append(slices.Clone(right[:511]), 1)},
		{"none", 0, bytes.Repeat([]byte{255}, 512)},
	} {
		d, _ := disk.New(8)
		d.Write(2, parts([]uint32{2}, []uint32{3, 4, 5, 6, 7})[2])
		d.Write(c.place, c.b)
		d.Sync()
		checkOpens(t, c.what, d, api.ErrNone)
		d.Write(0, right)
		checkOpens(t, "right, and waits", d, api.OK)
	}
}

// P10.1: the newest super is the one that is gone by: of both, of the one that is right, and also where the other one is of another disk.
func TestOpenNewest(t *testing.T) {
	list := parts([]uint32{2}, []uint32{3, 4, 5, 6, 7})
	for _, c := range []struct {
		even, odd uint64
		seq       uint64
	}{{4, 5, 5}, {6, 5, 6}, {2, 999, 999}, {1 << 63, 1<<63 - 1, 1 << 63}, {0, 1, 1}, {1 << 32, 1<<32 + 1, 1<<32 + 1}, {1 << 32, 3, 1 << 32}} {
		for _, wrong := range []bool{false, true} {
			older := api.Super{Seq: c.even + c.odd - c.seq, Blocks: 8, List: 2, Free: 5}
			if wrong {
				older.Blocks = 9
			}
			d := written(t, 8, older, list)
			s := api.Super{Seq: c.seq, Blocks: 8, List: 2, Free: 5, Roots: [8]api.Root{rootOf(1), 7: rootOf(8)}}
			d.Write(int(c.seq%2), laidSuper(s))
			checkOpens(t, "newest", d, api.OK)
			if p := reopened(t, d); p.Seq() != c.seq || p.Root(7) != rootOf(8) {
				t.Errorf("Seq %d, not %d", p.Seq(), c.seq)
			}
		}
	}
	// The newest one says what isn't so: the other one isn't gone by.
	d := written(t, 8, api.Super{Seq: 4, Blocks: 8, List: 2, Free: 5}, list)
	d.Write(1, laidSuper(api.Super{Seq: 5, Blocks: 8, List: 3, Free: 5}))
	checkOpens(t, "the newest alone", d, api.ErrForm)
	d.Write(1, laidSuper(api.Super{Seq: 3, Blocks: 8, List: 3, Free: 5}))
	checkOpens(t, "the newest alone", d, api.OK)
}

// P10.1: a super that tells another number of blocks than the disk has.
func TestOpenOtherBlocks(t *testing.T) {
	for _, blocks := range []uint32{0, 1, 2, 7, 9, 10, 4096, 1<<16 + 8, 1 << 31, 1<<32 - 1} {
		d := written(t, 8, api.Super{Seq: 1, Blocks: blocks, List: 2, Free: 5}, parts([]uint32{2}, []uint32{3, 4, 5, 6, 7}))
		checkOpens(t, "other blocks", d, api.ErrForm)
		checkOpens(t, "other blocks, no list", written(t, 8, api.Super{Seq: 1, Blocks: blocks}, nil), api.ErrForm)
	}
	checkOpens(t, "as many", written(t, 8, api.Super{Seq: 1, Blocks: 8, List: 2, Free: 5}, parts([]uint32{2}, []uint32{3, 4, 5, 6, 7})), api.OK)
}

// P10.1: lists that are right: none, one that names none, one whose pages stand in any order, in more pages than it must, and one that leaves pages in use.
func TestOpenRight(t *testing.T) {
	for what, c := range map[string]struct {
		free  uint32
		pages []uint32
		named [][]uint32
	}{
		"none":           {0, nil, nil},
		"names none":     {0, []uint32{4}, [][]uint32{nil}},
		"one":            {1, []uint32{4}, [][]uint32{{9}}},
		"falling pages":  {3, []uint32{9, 4, 2}, [][]uint32{{3}, {5}, {8}}},
		"none between":   {2, []uint32{2, 9, 3, 4}, [][]uint32{{6}, nil, {7}, nil}},
		"none ahead":     {2, []uint32{2, 3, 4}, [][]uint32{nil, nil, {6, 7}}},
		"all the others": {7, []uint32{5}, [][]uint32{{2, 3, 4, 6, 7, 8, 9}}},
		"all pages":      {0, []uint32{9, 8, 7, 6, 5, 4, 3, 2}, make([][]uint32, 8)},
	} {
		s := api.Super{Seq: 3, Blocks: 10, Free: c.free}
		if len(c.pages) > 0 {
			s.List = c.pages[0]
		}
		checkOpens(t, what, written(t, 10, s, parts(c.pages, c.named...)), api.OK)
	}
}

// broken is a list in some pages, and what a super says of it.
type broken struct {
	list, free uint32
	pages      map[uint32][]byte
}

// check opens a disk of ten blocks that has it.
func (x broken) check(t testing.TB, what string, want api.Errno) {
	t.Helper()
	checkOpens(t, what, written(t, 10, api.Super{Seq: 1, Blocks: 10, List: x.list, Free: x.free}, x.pages), want)
}

// two is a list in the pages 4 and 7.
func two(first, second []uint32) map[uint32][]byte { return parts([]uint32{4, 7}, first, second) }

// first is the page 4 alone.
func first(b []byte) map[uint32][]byte { return map[uint32][]byte{4: b} }

// last is a list in the pages 4 and 7, of which the first one names 2 and 3.
func last(b []byte) map[uint32][]byte {
	pages := two([]uint32{2, 3}, nil)
	pages[7] = b
	return pages
}

// P10.1: lists that are broken by their pages, in each way that the chapter names.
func TestOpenBrokenPages(t *testing.T) {
	torn := laidPage(7, 2, laidPart(0, 8, 9))
	torn[511] = 1
	form := slices.Clone(torn)
	copy(form, sumOf(form[4:]))
	broken{4, 4, last(laidPage(7, 2, laidPart(0, 8, 9)))}.check(t, "right", api.OK)
	for what, x := range map[string]broken{
		"begins at 1":              {1, 0, nil},
		"begins behind the end":    {10, 0, nil},
		"begins far off":           {1<<32 - 1, 0, nil},
		"begins 2^16 off":          {1<<16 + 4, 4, two([]uint32{2, 3}, []uint32{8, 9})},
		"begins at bytes 0":        {5, 0, nil},
		"goes on behind the end":   {4, 2, first(laidPage(4, 2, laidPart(10, 2, 3)))},
		"goes on far off":          {4, 2, first(laidPage(4, 2, laidPart(1<<32-1, 2, 3)))},
		"goes on at 1":             {4, 2, first(laidPage(4, 2, laidPart(1, 2, 3)))},
		"goes on at itself":        {4, 2, first(laidPage(4, 2, laidPart(4, 2, 3)))},
		"goes on at itself, empty": {4, 0, first(laidPage(4, 2, laidPart(4)))},
		"goes round":               {4, 4, last(laidPage(7, 2, laidPart(4, 8, 9)))},
		"the last one round":       {4, 4, last(laidPage(7, 2, laidPart(7, 8, 9)))},
		"another kind":             {4, 4, last(laidPage(7, 3, laidPart(0, 8, 9)))},
		"a super's kind":           {4, 4, last(laidPage(7, 1, laidPart(0, 8, 9)))},
		"another kind, first":      {4, 2, first(laidPage(4, 0, laidPart(0, 2, 3)))},
		"another number":           {4, 4, last(laidPage(6, 2, laidPart(0, 8, 9)))},
		"another sum":              {4, 4, last(torn)},
		"another form":             {4, 4, last(form)},
		"a body too short":         {4, 2, last(laidPage(7, 2, make([]byte, 5)))},
		"no body":                  {4, 2, last(laidPage(7, 2, nil))},
		"a body of another length": {4, 4, last(laidPage(7, 2, append(laidPart(0, 8, 9), 0)))},
		"a body cut short":         {4, 4, last(laidPage(7, 2, laidPart(0, 8, 9)[:13]))},
	} {
		x.check(t, what, api.ErrForm)
	}
}

// P10.1: lists that are broken by what they name, in each way that the chapter names.
func TestOpenBrokenNumbers(t *testing.T) {
	broken{4, 4, two([]uint32{2, 3}, []uint32{8, 9})}.check(t, "right", api.OK)
	for what, x := range map[string]broken{
		"names 0":                       {4, 4, two([]uint32{0, 3}, []uint32{8, 9})},
		"names 1":                       {4, 4, two([]uint32{1, 3}, []uint32{8, 9})},
		"names 1, second":               {4, 1, two(nil, []uint32{1})},
		"names behind the end":          {4, 4, two([]uint32{2, 3}, []uint32{8, 10})},
		"names behind the end, alone":   {4, 1, parts([]uint32{4}, []uint32{10})},
		"names far off":                 {4, 4, two([]uint32{2, 3}, []uint32{8, 1<<32 - 1})},
		"names far off, first":          {4, 3, two([]uint32{2, 1 << 31}, []uint32{9})},
		"names 2^16 off":                {4, 4, two([]uint32{2, 3}, []uint32{8, 1<<16 + 9})},
		"names its own page":            {4, 4, two([]uint32{2, 4}, []uint32{8, 9})},
		"names its next page":           {4, 4, two([]uint32{2, 7}, []uint32{8, 9})},
		"names the page ahead":          {4, 4, two([]uint32{2, 3}, []uint32{4, 9})},
		"names the last page itself":    {4, 4, two([]uint32{2, 3}, []uint32{7, 9})},
		"names one twice":               {4, 4, two([]uint32{2, 2}, []uint32{8, 9})},
		"falls":                         {4, 4, two([]uint32{3, 2}, []uint32{8, 9})},
		"names one twice, over pages":   {4, 4, two([]uint32{2, 8}, []uint32{8, 9})},
		"falls, over pages":             {4, 4, two([]uint32{8, 9}, []uint32{2, 3})},
		"falls a little, over pages":    {4, 4, two([]uint32{2, 6}, []uint32{5, 9})},
		"falls over a page without any": {4, 2, parts([]uint32{4, 5, 7}, []uint32{3}, nil, []uint32{2})},
		"twice over a page without any": {4, 2, parts([]uint32{4, 5, 7}, []uint32{3}, nil, []uint32{3})},
		"fewer than the super says":     {4, 5, two([]uint32{2, 3}, []uint32{8, 9})},
		"more than the super says":      {4, 3, two([]uint32{2, 3}, []uint32{8, 9})},
		"many more":                     {4, 0, two([]uint32{2, 3}, []uint32{8, 9})},
		"2^16 fewer":                    {4, 1<<16 + 4, two([]uint32{2, 3}, []uint32{8, 9})},
		"many fewer":                    {4, 1<<32 - 1, two([]uint32{2, 3}, []uint32{8, 9})},
		"none, but the super says one":  {0, 1, nil},
		"none named, but says one":      {4, 1, two(nil, nil)},
	} {
		x.check(t, what, api.ErrForm)
	}
}

// P10.1: a list that begins at a super's block isn't right, though there is a page of the kind KindList.
func TestOpenListInASuper(t *testing.T) {
	for place := range uint32(2) {
		s := api.Super{Seq: uint64(1 - place), Blocks: 8, List: place, Free: 5}
		d := written(t, 8, s, parts([]uint32{place}, []uint32{3, 4, 5, 6, 7}))
		checkOpens(t, "at a super", d, api.ErrForm)
		s.Free = 0
		want := api.ErrForm
		if place == 0 {
			// There is no list, whatever stands in block 0.
			want = api.OK
		}
		checkOpens(t, "at a super, none named", written(t, 8, s, parts([]uint32{place}, nil)), want)
	}
}

// P10.1: numbers that don't rise from one full page to the next one, and a page that names 124, of a great list.
func TestOpenBrokenFullPages(t *testing.T) {
	var all []uint32
	for n := uint32(5); n < 300; n++ {
		all = append(all, n)
	}
	lists := []uint32{2, 3, 4}
	s := api.Super{Seq: 1, Blocks: 300, List: 2, Free: 295}
	checkOpens(t, "right", written(t, 300, s, parts(lists, all[:123], all[123:246], all[246:])), api.OK)
	checkOpens(t, "others in each", written(t, 300, s, parts(lists, all[:100], all[100:200], all[200:])), api.OK)
	s.Free = 296
	checkOpens(t, "one twice", written(t, 300, s, parts(lists, all[:123], all[122:245], all[245:])), api.ErrForm)
	s.Free = 294
	checkOpens(t, "one left out", written(t, 300, s, parts(lists, all[:122], all[123:246], all[246:])), api.OK)
	s.Free = 246
	checkOpens(t, "two pages changed with each other", written(t, 300, s, parts(lists, all[123:246], all[:123], nil)), api.ErrForm)
	s.Free = 124
	checkOpens(t, "names 124", written(t, 300, s, map[uint32][]byte{2: laidPage(2, 2, laidPart(0, all[:124]...)[:500])}), api.ErrForm)
}

// P10.1: lists chosen at random, nearly right, are opened just when they are right by the chapter's words.
func TestOpenRandom(t *testing.T) {
	source := rand.New(rand.NewSource(10))
	seen := map[api.Errno]int{}
	for range 3000 {
		blocks := 8 + source.Intn(5)
		order := source.Perm(blocks - 2)
		var pages []uint32
		for _, n := range order[:source.Intn(4)] {
			pages = append(pages, uint32(n+2))
		}
		var all []uint32
		for _, n := range order[len(pages):] {
			if source.Intn(3) > 0 {
				all = append(all, uint32(n+2))
			}
		}
		slices.Sort(all)
		s := api.Super{Seq: uint64(source.Intn(3)), Blocks: uint32(blocks), Free: uint32(len(all))}
		if len(pages) > 0 {
			s.List = pages[0]
		} else {
			s.Free, all = 0, nil
		}
		named := make([][]uint32, len(pages))
		for i := range pages {
			many := source.Intn(len(all) + 1)
			if i == len(pages)-1 {
				many = len(all)
			}
			named[i], all = slices.Clone(all[:many]), all[many:]
		}
		if source.Intn(2) == 0 && len(pages) > 0 {
			if l := named[source.Intn(len(named))]; len(l) > 0 {
				l[source.Intn(len(l))] = uint32(source.Intn(blocks + 2))
			}
		}
		if source.Intn(8) == 0 {
			s.Free = uint32(source.Intn(blocks))
		}
		laid := parts(pages, named...)
		if source.Intn(8) == 0 && len(pages) > 0 {
			n := pages[source.Intn(len(pages))]
			laid[n][source.Intn(512)] ^= byte(source.Intn(256))
			copy(laid[n], sumOf(laid[n][4:]))
		}
		seen[checkOpen(t, written(t, blocks, s, laid))]++
		if t.Failed() {
			t.Fatal(s, pages, named)
		}
	}
	if seen[api.OK] < 500 || seen[api.ErrForm] < 500 {
		t.Error(seen)
	}
}

// R5: Open and what it tells hang on the disk alone: one that was opened often is told the same.
func TestOpenAgain(t *testing.T) {
	d, p, m := made(t, 250)
	for i := range 100 {
		m.doMake(t, p, 3, mixed(9, i))
	}
	m.doCommit(t, p)
	for range 3 {
		q := reopened(t, d)
		m.check(t, d, q)
		q.Make(3, nil)
		q.Drop(5)
		q.SetRoot(0, rootOf(1))
	}
	m.check(t, d, p)
	m.check(t, d.Copy(), reopened(t, d.Copy()))
}
