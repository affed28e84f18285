package disk

import (
	"bytes"
	"math"
	"math/rand"
	"slices"
	"testing"

	"cashbook/api"
)

// whole is a loss by which nothing is lost.
var whole = api.Loss{From: 0, To: api.BlockSize}

// filled are a block's bytes, all the same.
func filled(c byte) []byte { return bytes.Repeat([]byte{c}, api.BlockSize) }

// mixed are a block's bytes, unlike from place to place, and all unlike those of another number.
func mixed(by int) []byte {
	b := make([]byte, api.BlockSize)
	for i := range b {
		b[i] = byte(by*89 + i*7 + i/256)
	}
	return b
}

// made is a disk of so many blocks.
func made(t testing.TB, blocks int) *Disk {
	t.Helper()
	d, err := New(blocks)
	if err != api.OK || d == nil {
		t.Fatalf("New(%d) answers %d", blocks, err)
	}
	return d
}

// checkWrite writes, and holds the answer against what it should be.
func checkWrite(t testing.TB, d *Disk, n int, b []byte, want api.Errno) {
	t.Helper()
	if err := d.Write(n, b); err != want {
		t.Errorf("Write of %d bytes to %d answers %d, not %d", len(b), n, err, want)
	}
}

// checkSync makes safe, and holds the answer against what it should be.
func checkSync(t testing.TB, d *Disk, want api.Errno) {
	t.Helper()
	if err := d.Sync(); err != want {
		t.Errorf("Sync answers %d, not %d", err, want)
	}
}

// checkError reads a block that isn't told: an error alone.
func checkError(t testing.TB, d *Disk, n int, want api.Errno) {
	t.Helper()
	if b, err := d.Read(n); err != want || len(b) != 0 {
		t.Errorf("Read(%d) answers %d bytes and %d, not %d alone", n, len(b), err, want)
	}
}

// checkBlock holds a block against what it should be.
func checkBlock(t testing.TB, d *Disk, n int, want []byte) {
	t.Helper()
	b, err := d.Read(n)
	if err != api.OK || !bytes.Equal(b, want) {
		t.Errorf("Read(%d) answers %d, and %.20v .., not %.20v ..", n, err, b, want)
	}
}

// checkState holds what is told beside the blocks against what it should be.
func checkState(t testing.TB, d *Disk, down bool, waits, writes int) {
	t.Helper()
	if d.Down() != down || d.Waits() != waits || d.Writes() != writes {
		t.Errorf("Down %t, Waits %d, Writes %d, not %t, %d, %d", d.Down(), d.Waits(), d.Writes(), down, waits, writes)
	}
}

// P5.1: the chapter's example.
func TestExample(t *testing.T) {
	d := made(t, 8)
	d.Fuse(1)
	checkWrite(t, d, 3, filled(1), api.OK)
	checkState(t, d, false, 1, 1)
	checkWrite(t, d, 4, filled(2), api.ErrDown)
	checkState(t, d, true, 2, 2)
	d.Crash([]api.Loss{whole})
	checkBlock(t, d, 3, filled(1))
	checkBlock(t, d, 4, filled(0))
	checkState(t, d, false, 0, 2)
}

// P5.1: New, at the edges of how many blocks a disk may have.
func TestNew(t *testing.T) {
	for _, n := range []int{math.MinInt, -4096, -8, -1, 0, 1, 7, 4097, 1 << 32, math.MaxInt} {
		if d, err := New(n); d != nil || err != api.ErrArg {
			t.Errorf("New(%d) answers %v and %d", n, d != nil, err)
		}
	}
	for _, n := range []int{8, 9, 100, 4095, 4096} {
		d := made(t, n)
		if d.Blocks() != n {
			t.Errorf("of %d blocks there are %d", n, d.Blocks())
		}
		checkState(t, d, false, 0, 0)
		for i := range n {
			checkBlock(t, d, i, filled(0))
		}
		checkError(t, d, n, api.ErrRange)
	}
}

// P5.1: a new disk has no fuse, however many acts there are.
func TestNewHasNoFuse(t *testing.T) {
	d := made(t, 8)
	for i := range 300 {
		checkWrite(t, d, i%8, mixed(i), api.OK)
		if i%3 == 0 {
			checkSync(t, d, api.OK)
		}
	}
	if d.Down() {
		t.Error("it fell")
	}
}

// P5.1: blocks ahead of the first one and behind the last one.
func TestNoSuchBlock(t *testing.T) {
	for _, blocks := range []int{8, 9, 4096} {
		d := made(t, blocks)
		for _, n := range []int{math.MinInt, -4096, -1, blocks, blocks + 1, 1 << 32, math.MaxInt} {
			checkError(t, d, n, api.ErrRange)
			checkWrite(t, d, n, filled(1), api.ErrRange)
		}
		checkState(t, d, false, 0, 0)
		checkWrite(t, d, 0, mixed(1), api.OK)
		checkWrite(t, d, blocks-1, mixed(2), api.OK)
		checkState(t, d, false, 2, 2)
		for n := range blocks {
			switch n {
			case 0:
				checkBlock(t, d, n, mixed(1))
			case blocks - 1:
				checkBlock(t, d, n, mixed(2))
			default:
				checkBlock(t, d, n, filled(0))
			}
		}
	}
}

// P5.1: Write takes 512 bytes alone, and a wrong one changes nothing.
func TestHowManyBytes(t *testing.T) {
	d := made(t, 8)
	checkWrite(t, d, 2, mixed(7), api.OK)
	for _, b := range [][]byte{nil, {}, {1}, filled(9)[:511], append(filled(9), 9), bytes.Repeat(filled(9), 2), make([]byte, 65536)} {
		checkWrite(t, d, 2, b, api.ErrArg)
		checkState(t, d, false, 1, 1)
		checkBlock(t, d, 2, mixed(7))
	}
	checkWrite(t, d, 2, filled(9), api.OK)
	checkState(t, d, false, 2, 2)
	checkBlock(t, d, 2, filled(9))
}

// P5.1: where several errors apply, the one that is named first: ErrDown, ErrRange, ErrArg, and then ErrDown, if it falls now.
func TestWhichErrorFirst(t *testing.T) {
	wrong := [][]byte{nil, filled(1)[:511], append(filled(1), 1)}
	d := made(t, 8)
	d.Fuse(0)
	for _, n := range []int{-1, 8, math.MinInt, math.MaxInt} {
		for _, b := range append(wrong, filled(1)) {
			checkWrite(t, d, n, b, api.ErrRange)
		}
		checkError(t, d, n, api.ErrRange)
	}
	for _, b := range wrong {
		checkWrite(t, d, 0, b, api.ErrArg)
	}
	checkState(t, d, false, 0, 0)
	checkWrite(t, d, 0, filled(1), api.ErrDown)
	checkState(t, d, true, 1, 1)
	for _, n := range []int{-1, 0, 7, 8, math.MinInt, math.MaxInt} {
		for _, b := range append(wrong, filled(1)) {
			checkWrite(t, d, n, b, api.ErrDown)
		}
		checkError(t, d, n, api.ErrDown)
	}
	checkSync(t, d, api.ErrDown)
	checkState(t, d, true, 1, 1)
}

// P5.1: calls that are no acts don't burn the fuse, nor do those that only tell.
func TestNoActs(t *testing.T) {
	d := made(t, 8)
	d.Fuse(2)
	for range 10 {
		checkWrite(t, d, -1, filled(1), api.ErrRange)
		checkWrite(t, d, 8, filled(1), api.ErrRange)
		checkWrite(t, d, 0, filled(1)[:511], api.ErrArg)
		checkWrite(t, d, 0, nil, api.ErrArg)
		checkBlock(t, d, 0, filled(0))
		checkError(t, d, 8, api.ErrRange)
		checkState(t, d, false, 0, 0)
		if d.Blocks() != 8 || d.Copy().Down() {
			t.Error("another disk")
		}
	}
	checkWrite(t, d, 0, filled(1), api.OK)
	checkWrite(t, d, 0, nil, api.ErrArg)
	checkSync(t, d, api.OK)
	checkWrite(t, d, 0, nil, api.ErrArg)
	checkState(t, d, false, 0, 1)
	checkSync(t, d, api.ErrDown)
	checkState(t, d, true, 0, 1)
}

// P5.1: a disk falls at the act behind as many as its fuse tells, whichever acts these are.
func TestFuse(t *testing.T) {
	for _, acts := range []int{0, 1, 2, 3, 7, 50} {
		for every := 1; every < 5; every++ {
			for _, falls := range []string{"write", "sync"} {
				d := made(t, 8)
				d.Fuse(acts)
				writes, waits := 0, 0
				for i := range acts {
					if i%every == 0 {
						checkWrite(t, d, i%8, mixed(i), api.OK)
						writes, waits = writes+1, waits+1
					} else {
						checkSync(t, d, api.OK)
						waits = 0
					}
					checkState(t, d, false, waits, writes)
				}
				if falls == "write" {
					checkWrite(t, d, 5, filled(255), api.ErrDown)
					writes, waits = writes+1, waits+1
				} else {
					checkSync(t, d, api.ErrDown)
				}
				checkState(t, d, true, waits, writes)
				checkError(t, d, 5, api.ErrDown)
			}
		}
	}
}

// P5.1: the last fuse holds; one below 0 is none; the greatest one doesn't go round.
func TestFuseAgain(t *testing.T) {
	d := made(t, 8)
	d.Fuse(0)
	d.Fuse(1)
	checkSync(t, d, api.OK)
	d.Fuse(1)
	checkSync(t, d, api.OK)
	for _, none := range []int{-1, -2, -1000, math.MinInt} {
		d.Fuse(0)
		d.Fuse(none)
		for range 5 {
			checkWrite(t, d, 1, filled(1), api.OK)
			checkSync(t, d, api.OK)
		}
	}
	for _, far := range []int{1000, 1 << 32, math.MaxInt} {
		d.Fuse(far)
		for range 5 {
			checkWrite(t, d, 1, filled(1), api.OK)
			checkSync(t, d, api.OK)
		}
	}
	d.Fuse(3)
	checkSync(t, d, api.OK)
	d.Fuse(0)
	checkSync(t, d, api.ErrDown)
}

// P5.1: of a disk that is down a fuse does nothing, neither now nor behind the crash.
func TestFuseOfADiskThatIsDown(t *testing.T) {
	for _, acts := range []int{math.MinInt, -1, 0, 1, 2, math.MaxInt} {
		d := made(t, 8)
		d.Fuse(0)
		checkWrite(t, d, 1, filled(1), api.ErrDown)
		d.Fuse(acts)
		checkState(t, d, true, 1, 1)
		checkError(t, d, 1, api.ErrDown)
		checkWrite(t, d, 1, filled(2), api.ErrDown)
		checkSync(t, d, api.ErrDown)
		d.Crash(nil)
		for range 5 {
			checkWrite(t, d, 1, filled(3), api.OK)
			checkSync(t, d, api.OK)
		}
		checkState(t, d, false, 0, 6)
	}
}

// P5.1: a write that the disk falls at waits, and the crash may give all of it, a part, or nothing.
func TestWriteThatItFallsAt(t *testing.T) {
	for _, c := range []struct {
		l    []api.Loss
		want []byte
	}{
		{nil, filled(1)},
		{[]api.Loss{{}}, filled(1)},
		{[]api.Loss{whole}, filled(2)},
		{[]api.Loss{{From: 0, To: 200}}, append(filled(2)[:200:200], filled(1)[200:]...)},
		{[]api.Loss{{From: 200, To: 512}}, append(filled(1)[:200:200], filled(2)[200:]...)},
	} {
		d := made(t, 8)
		checkWrite(t, d, 6, filled(1), api.OK)
		checkSync(t, d, api.OK)
		d.Fuse(0)
		checkWrite(t, d, 6, filled(2), api.ErrDown)
		checkState(t, d, true, 1, 2)
		d.Crash(c.l)
		checkState(t, d, false, 0, 2)
		checkBlock(t, d, 6, c.want)
	}
}

// P5.1: a Sync that the disk falls at makes nothing safe: what waited waits, and the crash may lose it.
func TestSyncThatItFallsAt(t *testing.T) {
	for _, l := range [][]api.Loss{nil, {{}, {}}, {{}, whole}, {whole}, {whole, whole}} {
		d := made(t, 8)
		checkWrite(t, d, 0, filled(1), api.OK)
		checkWrite(t, d, 1, filled(2), api.OK)
		d.Fuse(0)
		checkSync(t, d, api.ErrDown)
		checkState(t, d, true, 2, 2)
		checkError(t, d, 0, api.ErrDown)
		d.Crash(l)
		checkState(t, d, false, 0, 2)
		for n := range 2 {
			want := filled(0)
			if n < len(l) && l[n] == whole {
				want = filled(byte(n + 1))
			}
			checkBlock(t, d, n, want)
		}
	}
}

// places are where losses may begin and end: at the edges of a block, within it, and outside.
func places() []int {
	return []int{math.MinInt, -513, -512, -1, 0, 1, 2, 255, 256, 257, 510, 511, 512, 513, 1024, 1 << 32, math.MaxInt}
}

// P5.1: those bytes alone that are from From to ahead of To, below 0 and above 512, and From behind To, too.
func TestLosses(t *testing.T) {
	for _, from := range places() {
		for _, to := range places() {
			d := made(t, 8)
			checkWrite(t, d, 3, mixed(1), api.OK)
			checkSync(t, d, api.OK)
			checkWrite(t, d, 3, mixed(2), api.OK)
			d.Crash([]api.Loss{{From: from, To: to}})
			want := mixed(1)
			for i := range want {
				if i >= from && i < to {
					want[i] = mixed(2)[i]
				}
			}
			checkBlock(t, d, 3, want)
			checkState(t, d, false, 0, 2)
			for _, n := range []int{0, 1, 2, 4, 5, 6, 7} {
				checkBlock(t, d, n, filled(0))
			}
		}
	}
}

// P5.1: the i-th write that waits has the i-th loss: fewer losses than writes, as many, more, and none.
func TestHowManyLosses(t *testing.T) {
	for _, l := range [][]api.Loss{nil, {}, make([]api.Loss, 5), make([]api.Loss, 100)} {
		for kept := range len(l) + 1 {
			l := slices.Clone(l)
			for i := range kept {
				l[i] = whole
			}
			d := made(t, 8)
			for n := range 5 {
				checkWrite(t, d, n, mixed(n+1), api.OK)
			}
			d.Crash(l)
			checkState(t, d, false, 0, 5)
			for n := range 8 {
				want := filled(0)
				if n < min(5, kept) {
					want = mixed(n + 1)
				}
				checkBlock(t, d, n, want)
			}
		}
	}
	for kept := range 5 {
		d := made(t, 8)
		for n := range 5 {
			checkWrite(t, d, n, mixed(n+1), api.OK)
		}
		l := make([]api.Loss, kept+1)
		l[kept] = whole
		d.Crash(l)
		for n := range 8 {
			want := filled(0)
			if n == kept {
				want = mixed(n + 1)
			}
			checkBlock(t, d, n, want)
		}
	}
}

// P5.1: of several writes that wait for one block the last one is told, and a crash gives of each some, in order.
func TestSeveralWritesOfOneBlock(t *testing.T) {
	before := func() *Disk {
		d := made(t, 8)
		checkWrite(t, d, 5, filled(9), api.OK)
		checkSync(t, d, api.OK)
		for c := byte(1); c <= 3; c++ {
			checkWrite(t, d, 5, filled(c), api.OK)
			checkWrite(t, d, 4, filled(c+100), api.OK)
			checkBlock(t, d, 5, filled(c))
			checkBlock(t, d, 4, filled(c+100))
		}
		checkState(t, d, false, 6, 7)
		return d
	}
	parts := func(all ...byte) []byte {
		var b []byte
		for _, c := range all {
			b = append(b, filled(c)[:128]...)
		}
		return b
	}
	for _, c := range []struct {
		l          []api.Loss
		five, four []byte
	}{
		{nil, filled(9), filled(0)},
		{[]api.Loss{whole}, filled(1), filled(0)},
		{[]api.Loss{whole, whole, whole, whole, whole, whole}, filled(3), filled(103)},
		{[]api.Loss{whole, {}, whole, {}, {}, {}}, filled(2), filled(0)},
		{[]api.Loss{{}, whole, {}, {}, {}, {To: 128}}, filled(9), parts(103, 101, 101, 101)},
		{[]api.Loss{{To: 256}, {}, {From: 128, To: 384}}, parts(1, 2, 2, 9), filled(0)},
		{[]api.Loss{{From: 256, To: 512}, {}, {To: 128}, {}, {From: 384, To: 512}}, parts(2, 9, 1, 3), filled(0)},
		{[]api.Loss{whole, {}, {To: 384}, {}, {To: 128}}, parts(3, 2, 2, 1), filled(0)},
	} {
		d := before()
		d.Crash(c.l)
		checkBlock(t, d, 5, c.five)
		checkBlock(t, d, 4, c.four)
		checkState(t, d, false, 0, 7)
	}
	d := before()
	checkSync(t, d, api.OK)
	d.Crash(nil)
	checkBlock(t, d, 5, filled(3))
	checkBlock(t, d, 4, filled(103))
}

// P5.1: a disk that is up crashes likewise: nothing waits then, and it has no fuse.
func TestCrashOfADiskThatIsUp(t *testing.T) {
	d := made(t, 8)
	d.Crash(nil)
	d.Crash([]api.Loss{whole, whole})
	checkState(t, d, false, 0, 0)
	checkWrite(t, d, 0, filled(1), api.OK)
	checkWrite(t, d, 1, filled(2), api.OK)
	d.Fuse(0)
	d.Crash([]api.Loss{{}, whole})
	checkState(t, d, false, 0, 2)
	checkBlock(t, d, 0, filled(0))
	checkBlock(t, d, 1, filled(2))
	for range 5 {
		checkWrite(t, d, 0, filled(3), api.OK)
		checkSync(t, d, api.OK)
	}
	d.Fuse(3)
	d.Crash(nil)
	for range 5 {
		checkSync(t, d, api.OK)
	}
}

// P5.1: what a crash gave is safe: the next crash, with whatever losses, takes nothing of it.
func TestCrashAgain(t *testing.T) {
	d := made(t, 8)
	checkWrite(t, d, 0, filled(1), api.OK)
	checkWrite(t, d, 1, filled(2), api.OK)
	d.Crash([]api.Loss{whole, {To: 100}})
	for _, l := range [][]api.Loss{nil, {{}}, {whole, whole}, {{From: 50, To: 60}}} {
		d.Crash(l)
		checkBlock(t, d, 0, filled(1))
		checkBlock(t, d, 1, append(filled(2)[:100:100], filled(0)[100:]...))
	}
	checkState(t, d, false, 0, 2)
}

// P5.1: Writes counts what was done, and what the disk fell at, through Sync, Crash and Copy.
func TestWrites(t *testing.T) {
	d := made(t, 8)
	for n := range 5 {
		checkWrite(t, d, n, filled(1), api.OK)
	}
	checkSync(t, d, api.OK)
	checkState(t, d, false, 0, 5)
	d.Crash(nil)
	checkState(t, d, false, 0, 5)
	c := d.Copy()
	checkState(t, c, false, 0, 5)
	d.Fuse(0)
	checkWrite(t, d, 0, filled(1), api.ErrDown)
	checkWrite(t, d, 0, filled(1), api.ErrDown)
	checkState(t, d, true, 1, 6)
	checkState(t, d.Copy(), true, 1, 6)
	d.Crash(nil)
	checkWrite(t, d, 0, filled(1), api.OK)
	checkState(t, d, false, 1, 7)
	checkWrite(t, c, 0, filled(1), api.OK)
	checkState(t, c, false, 1, 6)
}

// P5.1: a copy is the same: its blocks, what waits, its fuse, whether it is down.
func TestCopyIsTheSame(t *testing.T) {
	d := made(t, 9)
	checkWrite(t, d, 0, mixed(1), api.OK)
	checkSync(t, d, api.OK)
	checkWrite(t, d, 0, mixed(2), api.OK)
	checkWrite(t, d, 8, mixed(3), api.OK)
	d.Fuse(1)
	c := d.Copy()
	for range 3 {
		c = c.Copy()
	}
	for _, x := range []*Disk{d, c} {
		if x.Blocks() != 9 {
			t.Error(x.Blocks())
		}
		checkState(t, x, false, 2, 3)
		checkBlock(t, x, 0, mixed(2))
		checkBlock(t, x, 8, mixed(3))
		checkWrite(t, x, 1, mixed(4), api.OK)
		checkWrite(t, x, 2, mixed(5), api.ErrDown)
		checkState(t, x, true, 4, 5)
	}
	down := d.Copy()
	checkState(t, down, true, 4, 5)
	checkError(t, down, 0, api.ErrDown)
	checkWrite(t, down, 0, mixed(6), api.ErrDown)
	checkSync(t, down, api.ErrDown)
	for _, x := range []*Disk{d, c, down} {
		x.Crash([]api.Loss{{To: 256}, {}, whole, whole})
		checkBlock(t, x, 0, append(mixed(2)[:256:256], mixed(1)[256:]...))
		checkBlock(t, x, 8, filled(0))
		checkBlock(t, x, 1, mixed(4))
		checkBlock(t, x, 2, mixed(5))
	}
}

// P5.1: a copy and the first one are nothing to one another, whatever is done with one of them.
func TestCopyIsAnother(t *testing.T) {
	before := func() *Disk {
		d := made(t, 8)
		for n := range 8 {
			checkWrite(t, d, n, filled(1), api.OK)
		}
		checkSync(t, d, api.OK)
		for n := range 3 {
			checkWrite(t, d, n, filled(2), api.OK)
		}
		d.Fuse(20)
		return d
	}
	for name, do := range map[string]func(*Disk){
		"writes":        func(d *Disk) { checkWrite(t, d, 0, filled(3), api.OK); checkWrite(t, d, 7, filled(3), api.OK) },
		"sync":          func(d *Disk) { checkSync(t, d, api.OK) },
		"sync and more": func(d *Disk) { d.Sync(); d.Write(1, filled(3)); d.Sync(); d.Write(1, filled(4)) },
		"fuse":          func(d *Disk) { d.Fuse(0) },
		"fall":          func(d *Disk) { d.Fuse(0); checkWrite(t, d, 1, filled(3), api.ErrDown) },
		"crash":         func(d *Disk) { d.Crash(nil) },
		"crash, kept":   func(d *Disk) { d.Crash([]api.Loss{whole, whole, {To: 5}}) },
		"crash, more":   func(d *Disk) { d.Crash(nil); d.Write(4, filled(5)); d.Sync(); d.Write(5, filled(6)) },
		"many writes": func(d *Disk) {
			for i := range 15 {
				d.Write(i%8, filled(7))
			}
		},
	} {
		for _, first := range []bool{true, false} {
			d := before()
			c := d.Copy()
			changed, other := c, d
			if first {
				changed, other = d, c
			}
			do(changed)
			t.Log(name, first)
			checkState(t, other, false, 3, 11)
			for n := range 8 {
				want := filled(1)
				if n < 3 {
					want = filled(2)
				}
				checkBlock(t, other, n, want)
			}
			for range 20 {
				checkWrite(t, other, 7, filled(9), api.OK)
			}
			checkSync(t, other, api.ErrDown)
			other.Crash([]api.Loss{{}, {From: 10, To: 20}, whole})
			want := filled(1)
			copy(want[10:20], filled(2))
			checkBlock(t, other, 0, filled(1))
			checkBlock(t, other, 1, want)
			checkBlock(t, other, 2, filled(2))
			checkBlock(t, other, 7, filled(1))
		}
	}
}

// P5.1: of two copies of one disk what is written to both stays each one's own.
func TestTwoCopies(t *testing.T) {
	d := made(t, 8)
	for n := range 3 {
		checkWrite(t, d, n, filled(1), api.OK)
	}
	all := []*Disk{d, d.Copy(), d.Copy()}
	for i, x := range all {
		checkWrite(t, x, 3, filled(byte(10+i)), api.OK)
	}
	for i, x := range all {
		checkBlock(t, x, 3, filled(byte(10+i)))
		x.Crash([]api.Loss{{}, {}, {}, whole})
	}
	for i, x := range all {
		checkBlock(t, x, 3, filled(byte(10+i)))
	}
}

// R3: bytes that were handed in are not changed, and are not the disk's own.
func TestHandedIn(t *testing.T) {
	room := append(mixed(1), 1, 2, 3)
	was := slices.Clone(room)
	b := room[:api.BlockSize]
	l := []api.Loss{{From: -5, To: 9999}, {From: 400, To: 3}}
	d := made(t, 8)
	checkWrite(t, d, 0, b, api.OK)
	checkWrite(t, d, 1, b, api.OK)
	checkWrite(t, d, 1, room, api.ErrArg)
	clear(b)
	checkBlock(t, d, 0, mixed(1))
	copy(b, mixed(2))
	checkSync(t, d, api.OK)
	checkBlock(t, d, 0, mixed(1))
	copy(b, mixed(1))
	checkWrite(t, d, 2, b, api.OK)
	checkWrite(t, d, 3, b, api.OK)
	clear(b)
	d.Crash(l)
	if l[0] != (api.Loss{From: -5, To: 9999}) || l[1] != (api.Loss{From: 400, To: 3}) {
		t.Error("the losses were changed:", l)
	}
	l[0] = api.Loss{}
	checkBlock(t, d, 2, mixed(1))
	checkBlock(t, d, 3, filled(0))
	copy(b, mixed(1))
	for n := range 8 {
		checkWrite(t, d, n, b, api.OK)
	}
	checkSync(t, d, api.OK)
	if !bytes.Equal(room, was) {
		t.Error("the bytes were changed")
	}
}

// R3: bytes that were told are not the disk's own, nor those of another answer.
func TestTold(t *testing.T) {
	d := made(t, 8)
	checkWrite(t, d, 0, mixed(1), api.OK)
	checkSync(t, d, api.OK)
	checkWrite(t, d, 1, mixed(2), api.OK)
	spoil := func(n int, want []byte) {
		t.Helper()
		first, _ := d.Read(n)
		second, _ := d.Read(n)
		clear(first[:cap(first)])
		if !bytes.Equal(second, want) {
			t.Errorf("two answers of block %d share", n)
		}
		copy(second[:cap(second)], filled(77))
		checkBlock(t, d, n, want)
	}
	c := d.Copy()
	spoil(0, mixed(1))
	spoil(1, mixed(2))
	spoil(2, filled(0))
	checkSync(t, d, api.OK)
	spoil(1, mixed(2))
	d.Crash(nil)
	for n, want := range [][]byte{mixed(1), mixed(2), filled(0)} {
		checkBlock(t, d, n, want)
		checkBlock(t, c, n, want)
	}
}

// P5.2: what was made safe, and not written since, is there behind crashes of any losses, whether the disk fell at a Write, at a Sync, or is up.
func TestSafe(t *testing.T) {
	losses := [][]api.Loss{nil, {{}}, {whole}, {whole, whole, whole, whole}, {{From: 1, To: 511}, {From: 300, To: 2}, {From: -9, To: 10}, {From: 500, To: 9999}}}
	for _, l := range losses {
		for falls := range 6 {
			d := made(t, 8)
			for n := range 8 {
				checkWrite(t, d, n, mixed(n), api.OK)
			}
			checkSync(t, d, api.OK)
			d.Fuse(falls)
			for n := range 4 {
				d.Write(n, mixed(n+100))
			}
			if falls == 4 {
				checkSync(t, d, api.ErrDown)
			}
			if down := falls <= 4; d.Down() != down {
				t.Fatalf("fuse %d: down %t", falls, d.Down())
			}
			for range 3 {
				d.Crash(l)
				for n := 4; n < 8; n++ {
					checkBlock(t, d, n, mixed(n))
				}
			}
		}
	}
}

// P5.2: of a block that was written since, too, each byte that no loss names is the one that was made safe.
func TestSafeBytes(t *testing.T) {
	source := rand.New(rand.NewSource(52))
	for range 300 {
		d := made(t, 8)
		for n := range 8 {
			checkWrite(t, d, n, filled(200), api.OK)
			checkWrite(t, d, n, filled(byte(n)), api.OK)
		}
		checkSync(t, d, api.OK)
		var touched [8][api.BlockSize]bool
		var l []api.Loss
		for i := range source.Intn(12) {
			n := source.Intn(8)
			checkWrite(t, d, n, filled(byte(100+i)), api.OK)
			x := api.Loss{From: source.Intn(600) - 50, To: source.Intn(600) - 50}
			l = append(l, x)
			for at := max(x.From, 0); at < min(x.To, api.BlockSize); at++ {
				touched[n][at] = true
			}
		}
		d.Crash(l)
		for n := range 8 {
			b, _ := d.Read(n)
			for at, c := range b {
				if safe := c == byte(n); safe == touched[n][at] {
					t.Fatalf("block %d, byte %d is %d; a loss names it: %t", n, at, c, touched[n][at])
				}
			}
		}
	}
}

// waiting is a write that waits, of a model.
type waiting struct {
	n int
	b []byte
}

// model is a disk by the chapter's words, as two images: what reading tells, and what is safe.
type model struct {
	now, safe [][]byte
	waits     []waiting
	fused     bool
	left      int
	down      bool
	writes    int
}

func newModel(blocks int) *model {
	m := &model{}
	for range blocks {
		m.now = append(m.now, filled(0))
		m.safe = append(m.safe, filled(0))
	}
	return m
}

func images(all [][]byte) [][]byte {
	var other [][]byte
	for _, b := range all {
		other = append(other, slices.Clone(b))
	}
	return other
}

func (m *model) copied() *model {
	other := *m
	other.now, other.safe = images(m.now), images(m.safe)
	other.waits = slices.Clone(m.waits)
	return &other
}

// falls counts an act, and tells whether the disk falls at it.
func (m *model) falls() bool {
	if m.fused && m.left == 0 {
		m.down = true
		return true
	}
	m.left--
	return false
}

func (m *model) write(n int, b []byte) api.Errno {
	if m.down {
		return api.ErrDown
	}
	if n < 0 || n >= len(m.now) {
		return api.ErrRange
	}
	if len(b) != 512 {
		return api.ErrArg
	}
	m.writes++
	m.waits = append(m.waits, waiting{n, slices.Clone(b)})
	if m.falls() {
		return api.ErrDown
	}
	copy(m.now[n], b)
	return api.OK
}

func (m *model) sync() api.Errno {
	if m.down || m.falls() {
		return api.ErrDown
	}
	m.safe, m.waits = images(m.now), nil
	return api.OK
}

func (m *model) fuse(acts int) {
	if !m.down {
		m.fused, m.left = acts >= 0, acts
	}
}

func (m *model) crash(l []api.Loss) {
	for i, w := range m.waits {
		for at := range w.b {
			if i < len(l) && at >= l[i].From && at < l[i].To {
				m.safe[w.n][at] = w.b[at]
			}
		}
	}
	m.now, m.waits, m.down, m.fused = images(m.safe), nil, false, false
}

// pair is a disk, and what it should be.
type pair struct {
	d *Disk
	m *model
}

// check holds all that a disk tells against what it should be.
func (p pair) check(t testing.TB) {
	t.Helper()
	checkState(t, p.d, p.m.down, len(p.m.waits), p.m.writes)
	if p.d.Blocks() != len(p.m.now) {
		t.Errorf("%d blocks", p.d.Blocks())
	}
	for n, b := range p.m.now {
		if p.m.down {
			checkError(t, p.d, n, api.ErrDown)
		} else {
			checkBlock(t, p.d, n, b)
		}
	}
	if p.m.down {
		checkError(t, p.d, len(p.m.now), api.ErrDown)
	} else {
		checkError(t, p.d, len(p.m.now), api.ErrRange)
	}
}

// someLosses are some losses, by numbers that come from outside.
func someLosses(next func(int) int) []api.Loss {
	var l []api.Loss
	for range next(7) {
		if next(3) == 0 {
			l = append(l, whole)
			continue
		}
		l = append(l, api.Loss{From: places()[next(len(places()))], To: next(700) - 90})
	}
	return l
}

// step does one call, of those that change a disk, to a disk and its model.
func (p pair) step(t testing.TB, next func(int) int) {
	t.Helper()
	switch next(8) {
	case 0, 1, 2:
		n, b := next(len(p.m.now)), mixed(next(256))
		checkWrite(t, p.d, n, b, p.m.write(n, b))
	case 3:
		n, b := next(11)-1, mixed(next(256))
		b = append(b, b[:1]...)[:api.BlockSize-1+next(3)]
		checkWrite(t, p.d, n, b, p.m.write(n, b))
	case 4, 5:
		checkSync(t, p.d, p.m.sync())
	case 6:
		acts := next(9) - 2
		p.d.Fuse(acts)
		p.m.fuse(acts)
	case 7:
		l := someLosses(next)
		p.d.Crash(l)
		p.m.crash(l)
	}
}

// rows does rows of calls, to several disks that are copies of one another.
func rows(t testing.TB, steps int, next func(int) int) {
	t.Helper()
	blocks := 8 + next(2)
	all := []pair{{made(t, blocks), newModel(blocks)}}
	for range steps {
		i := next(len(all))
		if next(12) == 0 {
			other := pair{all[i].d.Copy(), all[i].m.copied()}
			if len(all) < 3 {
				all = append(all, other)
			} else {
				all[next(3)] = other
			}
		}
		all[i].step(t, next)
		for _, p := range all {
			p.check(t)
		}
		if t.Failed() {
			t.FailNow()
		}
	}
}

// P5.1 and P5.2: every call answers as said, in every order of calls.
func TestRowsOfCalls(t *testing.T) {
	for seed := range int64(60) {
		source := rand.New(rand.NewSource(seed))
		rows(t, 120, source.Intn)
	}
}

// P5.1: all rows of five calls of a few kinds, to one block.
func TestAllShortRows(t *testing.T) {
	const kinds, long = 8, 5
	total := 1
	for range long {
		total *= kinds
	}
	for row := range total {
		p := pair{made(t, 8), newModel(8)}
		rest := row
		for i := range long {
			p.shortStep(t, rest%kinds, i)
			rest /= kinds
		}
		checkState(t, p.d, p.m.down, len(p.m.waits), p.m.writes)
		if p.m.down {
			checkError(t, p.d, 0, api.ErrDown)
		} else {
			checkBlock(t, p.d, 0, p.m.now[0])
		}
		if t.Failed() {
			t.Fatalf("the row %o, its last call first", row)
		}
	}
}

// shortStep does one call of a few kinds.
func (p pair) shortStep(t testing.TB, kind, i int) {
	t.Helper()
	switch kind {
	case 0:
		b := filled(byte(i + 1))
		checkWrite(t, p.d, 0, b, p.m.write(0, b))
	case 1:
		checkWrite(t, p.d, 0, nil, p.m.write(0, nil))
	case 2:
		checkSync(t, p.d, p.m.sync())
	case 3, 4, 5:
		acts := kind - 4
		p.d.Fuse(acts)
		p.m.fuse(acts)
	case 6:
		p.d.Crash(nil)
		p.m.crash(nil)
	case 7:
		l := []api.Loss{{To: 300}, {From: 200, To: 512}}
		p.d.Crash(l)
		p.m.crash(l)
	}
}

// P5.1 and P5.2, of any row of calls.
func FuzzRows(f *testing.F) {
	f.Add([]byte{})
	f.Add([]byte{0, 0, 1, 0, 2, 9, 4, 7, 2, 0})
	f.Add(bytes.Repeat([]byte{6, 2, 0, 3, 0, 1, 7, 3, 255, 4}, 20))
	f.Fuzz(func(t *testing.T, b []byte) {
		next := func(n int) int {
			if len(b) == 0 {
				return 0
			}
			x := int(b[0])
			b = b[1:]
			if n > 256 && len(b) > 0 {
				x = x<<8 | int(b[0])
				b = b[1:]
			}
			return x % n
		}
		rows(t, min(len(b), 60), next)
	})
}
