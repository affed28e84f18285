package pool

import (
	"math"
	"math/rand"
	"slices"
	"testing"
)

// last is the greatest number.
const last = math.MaxUint32

// of is a pool of numbers, put in in their order.
func of(t testing.TB, numbers ...uint32) *Pool {
	t.Helper()
	p := New()
	for _, n := range numbers {
		checkPut(t, p, n, true)
	}
	return p
}

// checkPut puts a number in, and holds what is answered against what it should be.
func checkPut(t testing.TB, p *Pool, n uint32, want bool) {
	t.Helper()
	if ok := p.Put(n); ok != want {
		t.Errorf("Put(%d) answers %v, not %v", n, ok, want)
	}
}

// checkTakes takes numbers out: they are these, in their order.
func checkTakes(t testing.TB, p *Pool, want ...uint32) {
	t.Helper()
	for i, n := range want {
		if got, ok := p.Take(); !ok || got != n {
			t.Errorf("Take answers %d and %v, not %d (as number %d of %d)", got, ok, n, i, len(want))
		}
	}
}

// checkNone takes of a pool that has no number: 0 and false.
func checkNone(t testing.TB, p *Pool) {
	t.Helper()
	if n, ok := p.Take(); ok || n != 0 {
		t.Errorf("Take of a pool without numbers answers %d and %v", n, ok)
	}
}

// near are numbers about which pools are asked: the edges, those given, and those beside them.
func near(numbers []uint32) []uint32 {
	all := []uint32{0, 1, 2, 1<<16 - 1, 1 << 16, 1<<31 - 1, 1 << 31, 1<<31 + 1, last - 1, last}
	for _, n := range numbers {
		all = append(all, n-1, n, n+1)
	}
	return all
}

// checkHas holds all that a pool tells without a change against the numbers that it should have, rising.
func checkHas(t testing.TB, p *Pool, want []uint32) {
	t.Helper()
	if n := p.Len(); n != len(want) {
		t.Errorf("Len is %d, not %d", n, len(want))
	}
	if l := p.List(); !slices.Equal(l, want) {
		t.Errorf("List is %v, not %v", l, want)
	}
	for _, n := range near(want) {
		if ok := p.Has(n); ok != slices.Contains(want, n) {
			t.Errorf("Has(%d) is %v, of a pool of %v", n, ok, want)
		}
	}
}

// checkAll holds a pool against the numbers that it should have, rising, and then takes them all.
func checkAll(t testing.TB, p *Pool, want ...uint32) {
	t.Helper()
	checkHas(t, p, want)
	for i, n := range want {
		checkTakes(t, p, n)
		checkHas(t, p, want[i+1:])
	}
	checkNone(t, p)
	checkHas(t, p, nil)
}

// rising are n numbers, each so far behind the one ahead.
func rising(from uint32, n int, by uint32) []uint32 {
	all := make([]uint32, n)
	for i := range all {
		all[i] = from + uint32(i)*by
	}
	return all
}

// falling are the same numbers, the last one first.
func falling(numbers []uint32) []uint32 {
	all := slices.Clone(numbers)
	slices.Reverse(all)
	return all
}

// mixed are the same numbers, in an order that hangs on the seed.
func mixed(numbers []uint32, seed int64) []uint32 {
	all := slices.Clone(numbers)
	rand.New(rand.NewSource(seed)).Shuffle(len(all), func(i, j int) { all[i], all[j] = all[j], all[i] })
	return all
}

// orders calls do with every order of the numbers.
func orders(numbers []uint32, do func([]uint32)) {
	var from func(at int)
	from = func(at int) {
		if at == len(numbers) {
			do(slices.Clone(numbers))
			return
		}
		for i := at; i < len(numbers); i++ {
			numbers[at], numbers[i] = numbers[i], numbers[at]
			from(at + 1)
			numbers[at], numbers[i] = numbers[i], numbers[at]
		}
	}
	from(0)
}

// P8.1: the chapter's example.
func TestExample(t *testing.T) {
	p := of(t, 5, 3, 9)
	checkTakes(t, p, 3)
	checkPut(t, p, 3, true)
	checkTakes(t, p, 3, 5, 9)
	checkNone(t, p)
}

// P8.1: a new pool has no number, however often it is asked.
func TestNone(t *testing.T) {
	p := New()
	for range 3 {
		checkHas(t, p, nil)
		checkNone(t, p)
	}
	checkPut(t, p, 7, true)
	checkAll(t, p, 7)
}

// P8.1: pools that were made one behind the other have nothing of each other.
func TestTwoNew(t *testing.T) {
	p, q := New(), New()
	checkPut(t, p, 1, true)
	checkHas(t, q, nil)
	checkNone(t, q)
	checkPut(t, q, 1, true)
	checkPut(t, q, 2, true)
	checkAll(t, p, 1)
	checkAll(t, q, 1, 2)
}

// P8.1: a pool of one number: the least, the greatest, and others at which bits change.
func TestOne(t *testing.T) {
	for _, n := range near(nil) {
		p := of(t, n)
		checkHas(t, p, []uint32{n})
		checkPut(t, p, n, false)
		checkAll(t, p, n)
		checkPut(t, p, n, true)
		checkPut(t, p, n, false)
		checkAll(t, p, n)
	}
}

// P8.1: 0 that is taken is true; only of a pool without numbers 0 is false.
func TestTakeOfNought(t *testing.T) {
	p := of(t, last, 0)
	if n, ok := p.Take(); n != 0 || !ok {
		t.Errorf("Take answers %d and %v, not 0 and true", n, ok)
	}
	checkHas(t, p, []uint32{last})
	checkPut(t, p, 0, true)
	checkAll(t, p, 0, last)
}

// P8.1: numbers stand as numbers without a sign: 2^31 and those above it are behind those below.
func TestNoSign(t *testing.T) {
	numbers := []uint32{0, 1, 1<<31 - 1, 1 << 31, 1<<31 + 1, last - 1, last}
	orders(slices.Clone(numbers), func(row []uint32) { checkTakes(t, of(t, row...), numbers...) })
}

// P8.1: in every order in which a few numbers are put in, they go rising.
func TestEveryOrder(t *testing.T) {
	for n := range 7 {
		numbers := rising(3, n, 2)
		orders(slices.Clone(numbers), func(row []uint32) { checkAll(t, of(t, row...), numbers...) })
	}
}

// P8.1: many numbers, put in rising, falling and mixed.
func TestMany(t *testing.T) {
	for _, n := range []int{2, 3, 4, 7, 8, 9, 100, 4096} {
		for _, by := range []uint32{1, 3, last / 4096} {
			numbers := rising(0, n, by)
			for _, row := range [][]uint32{numbers, falling(numbers), mixed(numbers, 1), mixed(numbers, 2)} {
				p := of(t, row...)
				checkLists(t, p, numbers)
				checkTakes(t, p, numbers...)
				checkHas(t, p, nil)
				checkNone(t, p)
			}
		}
	}
}

// checkLists holds a pool's numbers, and how many they are, against what they should be.
func checkLists(t testing.TB, p *Pool, want []uint32) {
	t.Helper()
	if l := p.List(); !slices.Equal(l, want) || p.Len() != len(want) {
		t.Errorf("a pool of %d numbers lists %d, and says that they are %d", len(want), len(l), p.Len())
	}
}

// P8.1: a number that is in it already isn't put in again: it is listed once, counted once, and goes once.
func TestAgain(t *testing.T) {
	numbers := []uint32{0, 4, 6, 9, last}
	orders(slices.Clone(numbers), func(row []uint32) {
		p := of(t, row...)
		for range 2 {
			for _, n := range row {
				checkPut(t, p, n, false)
			}
		}
		checkAll(t, p, numbers...)
	})
}

// P8.1: a number that was taken can be put in again, and then not a second time.
func TestAgainOnceTaken(t *testing.T) {
	p := of(t, 8, 2, 5)
	for range 4 {
		checkTakes(t, p, 2)
		checkHas(t, p, []uint32{5, 8})
		checkPut(t, p, 2, true)
		checkPut(t, p, 2, false)
		checkHas(t, p, []uint32{2, 5, 8})
	}
	checkTakes(t, p, 2, 5)
	checkPut(t, p, 5, true)
	checkPut(t, p, 8, false)
	checkAll(t, p, 5, 8)
}

// P8.1: a pool that was emptied is as a new one.
func TestEmptied(t *testing.T) {
	p := New()
	for _, row := range [][]uint32{{3, 1, 2}, {2, 1, 3}, {last, 0}, {7}, mixed(rising(5, 50, 7), 3)} {
		for _, n := range row {
			checkPut(t, p, n, true)
		}
		checkAll(t, p, slices.Sorted(slices.Values(row))...)
		for _, n := range row {
			if p.Has(n) {
				t.Errorf("%d was taken, and is in it", n)
			}
		}
	}
}

// P8.1: between two that are taken, lesser numbers and greater ones come in.
func TestPutBetween(t *testing.T) {
	p := of(t, 10, 20, 30)
	checkTakes(t, p, 10)
	checkPut(t, p, 5, true)
	checkPut(t, p, 25, true)
	checkPut(t, p, 40, true)
	checkTakes(t, p, 5, 20)
	checkPut(t, p, 22, true)
	checkPut(t, p, 0, true)
	checkAll(t, p, 0, 22, 25, 30, 40)
}

// P8.1: what is only asked changes nothing.
func TestAskedOnly(t *testing.T) {
	p := of(t, 9, 1, 5)
	for range 3 {
		checkHas(t, p, []uint32{1, 5, 9})
		p.Copy()
	}
	checkPut(t, p, 4, true)
	checkAll(t, p, 1, 4, 5, 9)
}

// P8.1, R3: whoever writes into the numbers that were told changes nothing of the pool.
func TestToldIsNew(t *testing.T) {
	numbers := []uint32{2, 4, 6, 8}
	for _, row := range [][]uint32{numbers, falling(numbers), mixed(numbers, 4)} {
		p := of(t, row...)
		l := p.List()
		for i := range l {
			l[i] = 77
		}
		slices.Sort(append(l[:0], 100, 99, 98, 97))
		_ = append(p.List(), 55)
		checkHas(t, p, numbers)
		checkPut(t, p, 77, true)
		checkAll(t, p, 2, 4, 6, 8, 77)
	}
}

// P8.1, R3: what was told stays as it is, whatever becomes of the pool.
func TestToldStays(t *testing.T) {
	numbers := rising(10, 20, 10)
	p := of(t, mixed(numbers, 5)...)
	first, second := p.List(), p.List()
	first[0] = 1
	if !slices.Equal(second, numbers) {
		t.Errorf("two lists share their numbers: %v", second)
	}
	checkTakes(t, p, 10, 20, 30)
	for _, n := range []uint32{5, 15, last} {
		checkPut(t, p, n, true)
	}
	if !slices.Equal(second, numbers) {
		t.Errorf("what was told became %v", second)
	}
	checkAll(t, p, append(append([]uint32{5, 15}, numbers[3:]...), last)...)
}

// P8.1: a copy has the same numbers, however many there are, and however they came in.
func TestCopyIsTheSame(t *testing.T) {
	for n := range 20 {
		numbers := rising(1, n, 5)
		for _, row := range [][]uint32{numbers, falling(numbers), mixed(numbers, 6)} {
			p := of(t, row...)
			q := p.Copy()
			r := q.Copy()
			checkAll(t, q, numbers...)
			checkAll(t, p, numbers...)
			checkAll(t, r, numbers...)
		}
	}
}

// P8.1: what is put into the first one isn't in its copy, and the other way round.
func TestCopyPut(t *testing.T) {
	for n := range 20 {
		numbers := rising(10, n, 10)
		p := of(t, mixed(numbers, 7)...)
		q := p.Copy()
		checkPut(t, p, 1, true)
		checkHas(t, q, numbers)
		checkPut(t, q, 2, true)
		checkPut(t, q, 1, true)
		checkPut(t, p, 3, true)
		checkAll(t, p, append([]uint32{1, 3}, numbers...)...)
		checkAll(t, q, append([]uint32{1, 2}, numbers...)...)
	}
}

// P8.1: what is taken of the first one is still in its copy, and the other way round.
func TestCopyTake(t *testing.T) {
	numbers := rising(0, 9, 4)
	p := of(t, mixed(numbers, 8)...)
	q := p.Copy()
	checkTakes(t, p, numbers[:5]...)
	checkHas(t, q, numbers)
	checkPut(t, q, 0, false)
	checkPut(t, p, 0, true)
	checkTakes(t, q, numbers[:8]...)
	checkAll(t, p, append([]uint32{0}, numbers[5:]...)...)
	checkAll(t, q, numbers[8])
}

// P8.1: of a pool that was taken of, too, whose room has more than its numbers, a copy goes its own way.
func TestCopyOfOneTakenOf(t *testing.T) {
	p := of(t, 1, 2, 3, 4, 5)
	checkTakes(t, p, 1, 2, 3)
	q := p.Copy()
	checkPut(t, p, 0, true)
	checkPut(t, q, 9, true)
	checkPut(t, p, 8, true)
	checkAll(t, q, 4, 5, 9)
	checkAll(t, p, 0, 4, 5, 8)
}

// P8.1: a copy of a pool without numbers is one, new or emptied, and can be put into.
func TestCopyOfNone(t *testing.T) {
	emptied := of(t, 6, 7)
	checkTakes(t, emptied, 6, 7)
	for _, p := range []*Pool{New(), New().Copy(), emptied} {
		q := p.Copy()
		checkHas(t, q, nil)
		checkNone(t, q)
		checkPut(t, q, 6, true)
		checkHas(t, p, nil)
		checkNone(t, p)
		checkAll(t, q, 6)
	}
}

// pair is a pool, and the numbers that it should have, rising.
type pair struct {
	pool *Pool
	want []uint32
}

// put puts a number into both.
func (p *pair) put(t testing.TB, n uint32) {
	t.Helper()
	at := 0
	for at < len(p.want) && p.want[at] < n {
		at++
	}
	in := at < len(p.want) && p.want[at] == n
	checkPut(t, p.pool, n, !in)
	if !in {
		p.want = slices.Insert(slices.Clone(p.want), at, n)
	}
}

// take takes the least number of both.
func (p *pair) take(t testing.TB) {
	t.Helper()
	if len(p.want) == 0 {
		checkNone(t, p.pool)
		return
	}
	checkTakes(t, p.pool, p.want[0])
	p.want = slices.Clone(p.want[1:])
}

// wild writes into what the pool tells.
func (p *pair) wild() {
	for i, l := 0, p.pool.List(); i < len(l); i++ {
		l[i] = ^l[i]
	}
}

// step is one call, chosen by next: of some pools, of which copies become further ones.
func step(t testing.TB, all []*pair, next func(int) int, number func() uint32) []*pair {
	t.Helper()
	p := all[next(len(all))]
	switch next(8) {
	case 0, 1, 2:
		p.put(t, number())
	case 3, 4:
		p.take(t)
	case 5:
		if len(p.want) > 0 {
			p.put(t, p.want[next(len(p.want))])
		}
	case 6:
		p.wild()
	default:
		q := &pair{p.pool.Copy(), slices.Clone(p.want)}
		if len(all) < 4 {
			return append(all, q)
		}
		all[next(len(all))] = q
	}
	return all
}

// rows makes so many calls, and holds all pools against what they should have behind each.
func rows(t testing.TB, steps int, next func(int) int, number func() uint32) {
	t.Helper()
	all := []*pair{{pool: New()}}
	for range steps {
		all = step(t, all, next, number)
		for _, p := range all {
			checkHas(t, p.pool, p.want)
		}
		if t.Failed() {
			return
		}
	}
	for _, p := range all {
		checkAll(t, p.pool, p.want...)
	}
}

// P8.1: rows of calls in many orders, of few numbers, of pages' numbers, and of any.
func TestRowsOfCalls(t *testing.T) {
	for seed := range int64(150) {
		source := rand.New(rand.NewSource(seed))
		for _, most := range []int64{3, 12, 4096, 1 << 32} {
			rows(t, 120, source.Intn, func() uint32 { return uint32(source.Int63n(most)) })
		}
	}
}

// P8.1: every row of six calls, of Put of the numbers 0 to 3, Take, and Copy in place of the first one.
func TestAllShortRows(t *testing.T) {
	const kinds, calls = 6, 6
	all := 1
	for range calls {
		all *= kinds
	}
	for row := range all {
		p := &pair{pool: New()}
		for i, left := 0, row; i < calls; i, left = i+1, left/kinds {
			switch kind := left % kinds; kind {
			case 4:
				p.take(t)
			case 5:
				p.pool = p.pool.Copy()
			default:
				p.put(t, uint32(kind))
			}
			checkLists(t, p.pool, p.want)
		}
		checkTakes(t, p.pool, p.want...)
		checkNone(t, p.pool)
	}
}

// P8.1, R5: pools that were told the same answer the same, in whatever order their numbers came.
func TestSameAnswers(t *testing.T) {
	numbers := rising(0, 200, 11)
	first := of(t, numbers...)
	for seed := range int64(20) {
		p := of(t, mixed(numbers, seed)...)
		if !slices.Equal(p.List(), first.List()) {
			t.Fatalf("seed %d: other lists", seed)
		}
		checkTakes(t, p, numbers...)
	}
}

// P8.1: any row of calls, chosen by bytes.
func FuzzRows(f *testing.F) {
	f.Add([]byte{})
	f.Add([]byte{0, 0, 5, 0, 0, 3, 0, 0, 9, 0, 3, 0, 0, 3})
	f.Fuzz(func(t *testing.T, b []byte) {
		at := 0
		one := func() int {
			if at >= len(b) {
				return 0
			}
			at++
			return int(b[at-1])
		}
		next := func(n int) int { return one() % n }
		number := func() uint32 {
			if n := uint32(one()); n < 200 {
				return n
			}
			return last - uint32(one())
		}
		rows(t, min(len(b), 300), next, number)
	})
}
