package weak

import (
	"iter"
	"math"
	"slices"
	"testing"

	"tenon/api"
	"tenon/arena"
)

const (
	top       = math.MaxUint32
	topTarget = math.MaxUint64
)

type pair struct{ h, target uint64 }

// of is the handle of a place and a generation, as layer 2 says it.
func of(place int, generation uint32) uint64 {
	return uint64(generation)*(1<<32) + uint64(place) + 1
}

func created(t *testing.T, most int) *Table {
	t.Helper()
	x, e := New(most)
	if e != api.OK || x == nil {
		t.Fatalf("New(%d) = %v, %v", most, x, e)
	}
	return x
}

func block(t *testing.T, x *Table, target, want uint64) uint64 {
	t.Helper()
	h, e := x.Of(target)
	if h != want || e != api.OK {
		t.Fatalf("Of(%d) = %#x, %v, not %#x", target, h, e, want)
	}
	return h
}

func up(t *testing.T, x *Table, h uint64, want uint32) {
	t.Helper()
	if n, e := x.Up(h); n != want || e != api.OK {
		t.Fatalf("Up(%#x) = %d, %v, not %d", h, n, e, want)
	}
}

func down(t *testing.T, x *Table, h uint64, want uint32) {
	t.Helper()
	if n, e := x.Down(h); n != want || e != api.OK {
		t.Fatalf("Down(%#x) = %d, %v, not %d", h, n, e, want)
	}
}

// has: a count is told by turning it there and back.
func has(t *testing.T, x *Table, h uint64, want uint32) {
	t.Helper()
	up(t, x, h, want+1)
	down(t, x, h, want)
}

func die(t *testing.T, x *Table, target uint64, want bool) {
	t.Helper()
	if was := x.Die(target); was != want {
		t.Fatalf("Die(%d) = %v", target, was)
	}
}

func locks(t *testing.T, x *Table, h, want uint64) {
	t.Helper()
	if target, e := x.Lock(h); target != want || e != api.OK {
		t.Fatalf("Lock(%#x) = %d, %v, not %d", h, target, e, want)
	}
}

func gone(t *testing.T, x *Table, h uint64) {
	t.Helper()
	unchanged(t, x, func() {
		if target, e := x.Lock(h); target != 0 || e != api.ErrGone {
			t.Fatalf("Lock(%#x) = %d, %v, not ErrGone", h, target, e)
		}
	})
}

func stale(t *testing.T, x *Table, h uint64) {
	t.Helper()
	unchanged(t, x, func() {
		if n, e := x.Up(h); n != 0 || e != api.ErrStale {
			t.Fatalf("Up(%#x) = %d, %v, not ErrStale", h, n, e)
		}
		if n, e := x.Down(h); n != 0 || e != api.ErrStale {
			t.Fatalf("Down(%#x) = %d, %v, not ErrStale", h, n, e)
		}
		if target, e := x.Lock(h); target != 0 || e != api.ErrStale {
			t.Fatalf("Lock(%#x) = %d, %v, not ErrStale", h, target, e)
		}
	})
}

func refused(t *testing.T, x *Table, target uint64, want api.Errno) {
	t.Helper()
	unchanged(t, x, func() {
		if h, e := x.Of(target); h != 0 || e != want {
			t.Fatalf("Of(%d) = %#x, %v, not %v", target, h, e, want)
		}
	})
}

func refusedUp(t *testing.T, x *Table, h uint64) {
	t.Helper()
	unchanged(t, x, func() {
		if n, e := x.Up(h); n != 0 || e != api.ErrCount {
			t.Fatalf("Up(%#x) = %d, %v, not ErrCount", h, n, e)
		}
	})
}

func pairs(blocks iter.Seq2[uint64, uint64]) []pair {
	var l []pair
	for h, target := range blocks {
		l = append(l, pair{h, target})
	}
	return l
}

func told(t *testing.T, x *Table, want ...pair) {
	t.Helper()
	if l := pairs(x.Blocks()); !slices.Equal(l, want) {
		t.Fatalf("Blocks() tells %v, not %v", l, want)
	}
}

// fact is all that can be told of a block.
type fact struct {
	pair
	count uint32
	lives bool
}

func facts(x *Table) []fact {
	var l []fact
	for h, target := range x.Blocks() {
		_, e := x.Lock(h)
		l = append(l, fact{pair{h, target}, x.find(h).count, e == api.OK})
	}
	return l
}

// unchanged is R5: what answers an error leaves all as it was.
func unchanged(t *testing.T, x *Table, call func()) {
	t.Helper()
	before := facts(x)
	call()
	if after := facts(x); !slices.Equal(before, after) {
		t.Fatalf("a call that answers an error turned %v into %v", before, after)
	}
}

// setCount spares 2^32 calls of Up.
func setCount(t *testing.T, x *Table, h uint64, n uint32) {
	t.Helper()
	c := x.find(h)
	if c == nil {
		t.Fatalf("no block %#x", h)
	}
	c.count = n
}

// P12.1

func TestTheExample(t *testing.T) {
	x := created(t, 2)
	b := block(t, x, 5, of(0, 1))
	block(t, x, 5, b)
	die(t, x, 5, true)
	gone(t, x, b)
	c := block(t, x, 5, of(1, 1))
	down(t, x, b, 1)
	down(t, x, b, 0)
	stale(t, x, b)
	told(t, x, pair{c, 5})
	locks(t, x, c, 5)
}

func TestNew(t *testing.T) {
	for _, most := range []int{1, 2, 255, 256, 65535, 65536} {
		told(t, created(t, most))
	}
}

func TestNewRefuses(t *testing.T) {
	for _, most := range []int{0, -1, -65536, 65537, math.MaxInt32, math.MaxInt, math.MinInt, 1<<32 + 1} {
		if x, e := New(most); x != nil || e != api.ErrArg {
			t.Errorf("New(%d) = %v, %v", most, x, e)
		}
	}
}

func TestOfCounts(t *testing.T) {
	x := created(t, 3)
	b := block(t, x, 5, of(0, 1))
	has(t, x, b, 1)
	c := block(t, x, 6, of(1, 1))
	block(t, x, 5, b)
	block(t, x, 5, b)
	has(t, x, b, 3)
	has(t, x, c, 1)
	told(t, x, pair{b, 5}, pair{c, 6})
}

func TestAnyNumberIsATarget(t *testing.T) {
	targets := []uint64{0, 1, 1 << 31, 1 << 32, 1<<32 + 1, 1 << 63, topTarget - 1, topTarget}
	x := created(t, len(targets))
	for i, target := range targets {
		block(t, x, target, of(i, 1))
	}
	for i, target := range targets {
		block(t, x, target, of(i, 1))
		locks(t, x, of(i, 1), target)
		has(t, x, of(i, 1), 2)
	}
	refused(t, x, 2, api.ErrFull)
	for i, target := range targets {
		die(t, x, target, true)
		gone(t, x, of(i, 1))
		die(t, x, target, false)
	}
}

func TestUpAndDown(t *testing.T) {
	x := created(t, 2)
	b, c := block(t, x, 5, of(0, 1)), block(t, x, 6, of(1, 1))
	up(t, x, b, 2)
	up(t, x, b, 3)
	up(t, x, c, 2)
	down(t, x, b, 2)
	down(t, x, b, 1)
	locks(t, x, b, 5)
	down(t, x, b, 0)
	stale(t, x, b)
	told(t, x, pair{c, 6})
	has(t, x, c, 2)
}

func TestABlockOfNoCountIsNoMore(t *testing.T) {
	x := created(t, 1)
	for g := uint32(1); g < 20; g++ {
		b := block(t, x, 5, of(0, g))
		locks(t, x, b, 5)
		down(t, x, b, 0)
		stale(t, x, b)
		die(t, x, 5, false)
		told(t, x)
	}
}

// The greatest count is 2^32 - 1.
func TestTheGreatestCount(t *testing.T) {
	x := created(t, 2)
	b := block(t, x, 5, of(0, 1))
	setCount(t, x, b, top-2)
	up(t, x, b, top-1)
	up(t, x, b, top)
	refusedUp(t, x, b)
	refused(t, x, 5, api.ErrCount)
	locks(t, x, b, 5)
	c := block(t, x, 6, of(1, 1))
	has(t, x, c, 1)
	down(t, x, b, top-1)
	block(t, x, 5, b)
	refused(t, x, 5, api.ErrCount)
	// A table without room refuses by the count all the same: the block is there.
	refused(t, x, 7, api.ErrFull)
	refused(t, x, 5, api.ErrCount)
	down(t, x, b, top-1)
}

func TestTheGreatestCountOfWhatDied(t *testing.T) {
	x := created(t, 2)
	b := block(t, x, 5, of(0, 1))
	setCount(t, x, b, top)
	die(t, x, 5, true)
	refusedUp(t, x, b)
	gone(t, x, b)
	c := block(t, x, 5, of(1, 1))
	block(t, x, 5, c)
	has(t, x, c, 2)
	down(t, x, b, top-1)
	up(t, x, b, top)
	refusedUp(t, x, b)
}

func TestFull(t *testing.T) {
	x := created(t, 2)
	b, c := block(t, x, 5, of(0, 1)), block(t, x, 6, of(1, 1))
	refused(t, x, 7, api.ErrFull)
	die(t, x, 7, false)
	// A block that is there asks for no room.
	block(t, x, 5, b)
	block(t, x, 6, c)
	// One that died has its room still.
	die(t, x, 5, true)
	refused(t, x, 5, api.ErrFull)
	refused(t, x, 7, api.ErrFull)
	die(t, x, 5, false)
	down(t, x, b, 1)
	refused(t, x, 5, api.ErrFull)
	down(t, x, b, 0)
	b = block(t, x, 5, of(0, 2))
	locks(t, x, b, 5)
	refused(t, x, 7, api.ErrFull)
}

func TestTheGreatestTable(t *testing.T) {
	x := created(t, 65536)
	for i := range 65536 {
		block(t, x, uint64(i), of(i, 1))
	}
	if h, e := x.Of(65536); h != 0 || e != api.ErrFull {
		t.Fatal(h, e)
	}
	block(t, x, 65535, of(65535, 1))
	locks(t, x, of(65535, 1), 65535)
	down(t, x, of(40000, 1), 0)
	block(t, x, 65536, of(40000, 2))
	if h, e := x.Of(40000); h != 0 || e != api.ErrFull {
		t.Fatal(h, e)
	}
}

func TestPlacesAreTakenAsAnArenaTakesThem(t *testing.T) {
	x := created(t, 5)
	for i := range 4 {
		block(t, x, uint64(10+i), of(i, 1))
	}
	down(t, x, of(2, 1), 0)
	down(t, x, of(0, 1), 0)
	block(t, x, 20, of(0, 2))
	// Who dies gives no place back.
	die(t, x, 11, true)
	block(t, x, 21, of(2, 2))
	block(t, x, 11, of(4, 1))
	told(t, x, pair{of(0, 2), 20}, pair{of(1, 1), 11}, pair{of(2, 2), 21}, pair{of(3, 1), 13}, pair{of(4, 1), 11})
}

func TestDie(t *testing.T) {
	x := created(t, 3)
	die(t, x, 5, false)
	b, c := block(t, x, 5, of(0, 1)), block(t, x, 6, of(1, 1))
	die(t, x, b, false)
	die(t, x, 7, false)
	locks(t, x, b, 5)
	die(t, x, 5, true)
	gone(t, x, b)
	locks(t, x, c, 6)
	die(t, x, 5, false)
	gone(t, x, b)
	has(t, x, b, 1)
	has(t, x, c, 1)
}

// What has died is turned as before: only its target isn't told any more.
func TestABlockOutlivesItsTarget(t *testing.T) {
	x := created(t, 1)
	b := block(t, x, 5, of(0, 1))
	up(t, x, b, 2)
	die(t, x, 5, true)
	up(t, x, b, 3)
	gone(t, x, b)
	down(t, x, b, 2)
	down(t, x, b, 1)
	gone(t, x, b)
	down(t, x, b, 0)
	stale(t, x, b)
	die(t, x, 5, false)
}

func TestATargetThatDiedHasABlockAnew(t *testing.T) {
	x := created(t, 4)
	var l []uint64
	for i := range 4 {
		b := block(t, x, 5, of(i, 1))
		block(t, x, 5, b)
		locks(t, x, b, 5)
		for _, old := range l {
			gone(t, x, old)
		}
		die(t, x, 5, true)
		l = append(l, b)
	}
	for _, b := range l {
		gone(t, x, b)
		has(t, x, b, 2)
	}
	refused(t, x, 5, api.ErrFull)
}

// The block that died goes, and the one that lives stays what its target finds.
func TestWhatDiedTakesNothingAlong(t *testing.T) {
	x := created(t, 3)
	b := block(t, x, 5, of(0, 1))
	die(t, x, 5, true)
	c := block(t, x, 5, of(1, 1))
	down(t, x, b, 0)
	block(t, x, 5, c)
	has(t, x, c, 2)
	locks(t, x, c, 5)
	die(t, x, 5, true)
	gone(t, x, c)
	told(t, x, pair{c, 5})
}

// And the other way about: the one that lives goes, and the one that died is as dead as it was.
func TestWhatDiedStaysDead(t *testing.T) {
	x := created(t, 3)
	b := block(t, x, 5, of(0, 1))
	die(t, x, 5, true)
	c := block(t, x, 5, of(1, 1))
	down(t, x, c, 0)
	gone(t, x, b)
	die(t, x, 5, false)
	d := block(t, x, 5, of(1, 2))
	gone(t, x, b)
	stale(t, x, c)
	locks(t, x, d, 5)
	told(t, x, pair{b, 5}, pair{d, 5})
}

func TestLockKeepsNothing(t *testing.T) {
	x := created(t, 1)
	b := block(t, x, 5, of(0, 1))
	for range 3 {
		locks(t, x, b, 5)
		has(t, x, b, 1)
	}
	down(t, x, b, 0)
	stale(t, x, b)
}

func TestHandlesThatNobodyGaveAreStale(t *testing.T) {
	x := created(t, 4)
	b, c := block(t, x, 5, of(0, 1)), block(t, x, 6, of(1, 1))
	d := block(t, x, 7, of(2, 1))
	down(t, x, c, 0)
	die(t, x, 7, true)
	wrong := []uint64{0, 1, 2, 5, 6, 7, 1 << 32, topTarget, top, 1 << 63, of(0, 0), of(0, 2), of(0, top),
		of(1, 1), of(1, 2), of(2, 0), of(2, 2), of(3, 1), of(4, 1), of(65535, 1), of(65536, 1)}
	for i := range 64 {
		wrong = append(wrong, b^1<<i)
	}
	for _, h := range wrong {
		if h != d {
			stale(t, x, h)
		}
	}
	locks(t, x, b, 5)
	gone(t, x, d)
	block(t, x, 8, of(1, 2))
}

func TestTablesDoNotSeeOneAnother(t *testing.T) {
	x, y := created(t, 2), created(t, 2)
	b := block(t, x, 5, of(0, 1))
	stale(t, y, b)
	die(t, y, 5, false)
	block(t, y, 6, b)
	block(t, y, 5, of(1, 1))
	die(t, x, 5, true)
	locks(t, y, of(1, 1), 5)
	locks(t, y, b, 6)
	down(t, x, b, 0)
	has(t, y, b, 1)
}

func TestATableThatNewDidNotMake(t *testing.T) {
	for _, x := range []*Table{nil, new(Table)} {
		for _, n := range []uint64{0, 1, 5, of(0, 1), topTarget} {
			refused(t, x, n, api.ErrFull)
			stale(t, x, n)
			die(t, x, n, false)
		}
		told(t, x)
	}
}

// P12.2

func TestBlocksGoesByRisingPlaces(t *testing.T) {
	x := created(t, 5)
	told(t, x)
	for i, target := range []uint64{9, 3, 7, 1, 5} {
		block(t, x, target, of(i, 1))
	}
	told(t, x, pair{of(0, 1), 9}, pair{of(1, 1), 3}, pair{of(2, 1), 7}, pair{of(3, 1), 1}, pair{of(4, 1), 5})
	down(t, x, of(0, 1), 0)
	down(t, x, of(4, 1), 0)
	down(t, x, of(2, 1), 0)
	told(t, x, pair{of(1, 1), 3}, pair{of(3, 1), 1})
	// A place that is taken again stands where it stood, though its handle is greater now.
	block(t, x, 2, of(2, 2))
	block(t, x, 4, of(4, 2))
	told(t, x, pair{of(1, 1), 3}, pair{of(2, 2), 2}, pair{of(3, 1), 1}, pair{of(4, 2), 4})
}

func TestBlocksTellsEachOneOnce(t *testing.T) {
	x := created(t, 2)
	b := block(t, x, 5, of(0, 1))
	block(t, x, 5, b)
	up(t, x, b, 3)
	told(t, x, pair{b, 5})
}

// All blocks are told: one that died, too, and what it was made of.
func TestBlocksTellsWhatDied(t *testing.T) {
	x := created(t, 3)
	b := block(t, x, 5, of(0, 1))
	c := block(t, x, 0, of(1, 1))
	die(t, x, 5, true)
	die(t, x, 0, true)
	told(t, x, pair{b, 5}, pair{c, 0})
	d := block(t, x, 5, of(2, 1))
	told(t, x, pair{b, 5}, pair{c, 0}, pair{d, 5})
	down(t, x, b, 0)
	told(t, x, pair{c, 0}, pair{d, 5})
}

func TestBlocksStopsWhenItIsAskedTo(t *testing.T) {
	x := created(t, 5)
	for i := range 5 {
		block(t, x, uint64(i), of(i, 1))
	}
	for most := 1; most <= 5; most++ {
		n := 0
		x.Blocks()(func(uint64, uint64) bool {
			n++
			return n < most
		})
		if n != most {
			t.Errorf("it told %d and was asked to stop behind %d", n, most)
		}
	}
}

func TestBlocksTellsTheSameEachTime(t *testing.T) {
	x := created(t, 3)
	b, c := block(t, x, 5, of(0, 1)), block(t, x, 6, of(1, 1))
	all := x.Blocks()
	for range all {
		break
	}
	for range 3 {
		if l := pairs(all); !slices.Equal(l, []pair{{b, 5}, {c, 6}}) {
			t.Fatal(l)
		}
	}
	n := 0
	for range all {
		for range all {
			n++
		}
	}
	if n != 4 {
		t.Fatal(n)
	}
}

// A going over begins when it is ranged over: what was made since Blocks was called is told.
func TestBlocksBeginsWhenItIsGoneOver(t *testing.T) {
	x := created(t, 3)
	all := x.Blocks()
	b := block(t, x, 5, of(0, 1))
	if l := pairs(all); !slices.Equal(l, []pair{{b, 5}}) {
		t.Fatal(l)
	}
	down(t, x, b, 0)
	if l := pairs(all); len(l) != 0 {
		t.Fatal(l)
	}
}

func TestBlocksTellsWhatWasThereWhenItBegan(t *testing.T) {
	x := created(t, 4)
	for i := range 3 {
		block(t, x, uint64(10+i), of(i, 1))
	}
	down(t, x, of(1, 1), 0)
	var l []pair
	for h, target := range x.Blocks() {
		l = append(l, pair{h, target})
		if len(l) > 1 {
			continue
		}
		block(t, x, 20, of(1, 2))
		block(t, x, 21, of(3, 1))
		down(t, x, of(0, 1), 0)
		block(t, x, 22, of(0, 2))
		die(t, x, 12, true)
		down(t, x, of(2, 1), 0)
		block(t, x, 23, of(2, 2))
	}
	if !slices.Equal(l, []pair{{of(0, 1), 10}, {of(2, 1), 12}}) {
		t.Fatal(l)
	}
	told(t, x, pair{of(0, 2), 22}, pair{of(1, 2), 20}, pair{of(2, 2), 23}, pair{of(3, 1), 21})
}

func TestDownWhatIsGoneOver(t *testing.T) {
	x := created(t, 100)
	for i := range 100 {
		block(t, x, uint64(i), of(i, 1))
	}
	next := 0
	for h, target := range x.Blocks() {
		if h != of(next, 1) || target != uint64(next) {
			t.Fatal(h, target)
		}
		down(t, x, h, 0)
		next++
	}
	if next != 100 {
		t.Fatal(next)
	}
	told(t, x)
}

// P12.3

// A place that is worn out is taken no more: its block's handle would come twice, and tell another target.
func TestABlockThatIsWornOut(t *testing.T) {
	x := created(t, 1)
	x.blocks, _ = arena.New[*content](1, top-1)
	b := block(t, x, 5, of(0, top-1))
	down(t, x, b, 0)
	c := block(t, x, 6, of(0, top))
	stale(t, x, b)
	die(t, x, 6, true)
	down(t, x, c, 0)
	for _, target := range []uint64{5, 6, 7} {
		refused(t, x, target, api.ErrFull)
		die(t, x, target, false)
	}
	stale(t, x, b)
	stale(t, x, c)
	told(t, x)
}

func TestNoBlockTellsAnotherTarget(t *testing.T) {
	x := created(t, 1)
	var old []uint64
	for g := uint32(1); g < 20; g++ {
		b := block(t, x, uint64(g), of(0, g))
		for _, h := range old {
			stale(t, x, h)
		}
		locks(t, x, b, uint64(g))
		if g%2 == 0 {
			die(t, x, uint64(g), true)
			gone(t, x, b)
		}
		down(t, x, b, 0)
		old = append(old, b)
	}
}

// P12.1 to P12.3 in long rows of calls: against a plain model, which keeps all blocks that ever were and searches each time.

type plain struct {
	fact
	place int
}

type model struct {
	most        int
	blocks      []plain // those of the count 0 are no more
	generations []uint32
	free        []int // the place that was dropped last behind
}

func (m *model) at(h uint64) *plain {
	for i := range m.blocks {
		if b := &m.blocks[i]; b.h == h && b.count > 0 {
			return b
		}
	}
	return nil
}

func (m *model) living(target uint64) *plain {
	for i := range m.blocks {
		if b := &m.blocks[i]; b.target == target && b.lives && b.count > 0 {
			return b
		}
	}
	return nil
}

func (m *model) place() int {
	if n := len(m.free); n > 0 {
		place := m.free[n-1]
		m.free = m.free[:n-1]
		return place
	}
	if len(m.generations) == m.most {
		return -1
	}
	m.generations = append(m.generations, 1)
	return len(m.generations) - 1
}

func (m *model) of(target uint64) (uint64, api.Errno) {
	if b := m.living(target); b != nil {
		b.count++
		return b.h, api.OK
	}
	place := m.place()
	if place < 0 {
		return 0, api.ErrFull
	}
	h := of(place, m.generations[place])
	m.blocks = append(m.blocks, plain{fact{pair{h, target}, 1, true}, place})
	return h, api.OK
}

func (m *model) up(h uint64) (uint32, api.Errno) {
	b := m.at(h)
	if b == nil {
		return 0, api.ErrStale
	}
	b.count++
	return b.count, api.OK
}

func (m *model) down(h uint64) (uint32, api.Errno) {
	b := m.at(h)
	if b == nil {
		return 0, api.ErrStale
	}
	b.count--
	if b.count == 0 {
		m.generations[b.place]++
		m.free = append(m.free, b.place)
	}
	return b.count, api.OK
}

func (m *model) die(target uint64) bool {
	b := m.living(target)
	if b == nil {
		return false
	}
	b.lives = false
	return true
}

func (m *model) lock(h uint64) (uint64, api.Errno) {
	b := m.at(h)
	switch {
	case b == nil:
		return 0, api.ErrStale
	case !b.lives:
		return 0, api.ErrGone
	}
	return b.target, api.OK
}

func (m *model) facts() []fact {
	var l []fact
	for place := range m.generations {
		for _, b := range m.blocks {
			if b.place == place && b.count > 0 {
				l = append(l, b.fact)
			}
		}
	}
	return l
}

type dice struct{ seed uint32 }

func (d *dice) below(n int) int {
	d.seed = d.seed*1664525 + 1013904223
	return int(d.seed>>16) % n
}

// handle is mostly one of the newest, so that blocks are met often that are there still.
func (d *dice) handle(m *model) uint64 {
	n := len(m.blocks)
	switch k := d.below(8); {
	case n == 0 || k == 0:
		return of(d.below(m.most+1), uint32(d.below(4)))
	case k == 1:
		return m.blocks[d.below(n)].h
	}
	return m.blocks[n-1-d.below(min(n, 2*m.most))].h
}

// same: what a call answered is what the model answers.
func same[T uint32 | uint64](t *testing.T, name string, arg uint64, got T, e api.Errno, want T, wantE api.Errno) {
	t.Helper()
	if got != want || e != wantE {
		t.Fatalf("%s(%#x) = %#x, %v, not %#x, %v", name, arg, got, e, want, wantE)
	}
}

func turn(t *testing.T, x *Table, m *model, d *dice) {
	t.Helper()
	h, target := d.handle(m), uint64(d.below(2*m.most))
	switch d.below(7) {
	case 0, 1:
		got, e := x.Of(target)
		want, wantE := m.of(target)
		same(t, "Of", target, got, e, want, wantE)
	case 2:
		got, e := x.Up(h)
		want, wantE := m.up(h)
		same(t, "Up", h, got, e, want, wantE)
	case 3, 4:
		got, e := x.Down(h)
		want, wantE := m.down(h)
		same(t, "Down", h, got, e, want, wantE)
	case 5:
		die(t, x, target, m.die(target))
	case 6:
		got, e := x.Lock(h)
		want, wantE := m.lock(h)
		same(t, "Lock", h, got, e, want, wantE)
	}
}

func TestAnyCalls(t *testing.T) {
	for seed := range uint32(8) {
		for _, most := range []int{1, 2, 3, 8, 20} {
			x, m, d := created(t, most), &model{most: most}, &dice{seed}
			for range 1000 {
				turn(t, x, m, d)
				if l, want := facts(x), m.facts(); !slices.Equal(l, want) {
					t.Fatalf("%v, not %v", l, want)
				}
			}
		}
	}
}

// A block tells, as long as it is there, what it was made of, or that this has died; and that for ever.
func TestABlockTellsOneTargetForEver(t *testing.T) {
	x, d := created(t, 5), &dice{1}
	madeOf := map[uint64]uint64{}
	died := map[uint64]bool{}
	for range 20000 {
		target := uint64(d.below(8))
		if h, e := x.Of(target); e == api.OK {
			if was, twice := madeOf[h]; twice && (was != target || died[h]) {
				t.Fatalf("Of(%d) = %#x, which is of %d", target, h, was)
			}
			madeOf[h] = target
		}
		if dying := uint64(d.below(8)); d.below(3) == 0 && x.Die(dying) {
			for h, target := range x.Blocks() {
				died[h] = died[h] || target == dying
			}
		}
		for h, target := range x.Blocks() {
			got, e := x.Lock(h)
			if target != madeOf[h] || died[h] != (e == api.ErrGone) || !died[h] && (got != target || e != api.OK) {
				t.Fatalf("Lock(%#x) = %d, %v: it is of %d", h, got, e, madeOf[h])
			}
			if d.below(3) == 0 {
				x.Down(h)
			}
		}
	}
}

func TestTheSameCallsComeToTheSame(t *testing.T) {
	x, y, m, n := created(t, 4), created(t, 4), &model{most: 4}, &model{most: 4}
	d, f := &dice{7}, &dice{7}
	for range 1000 {
		turn(t, x, m, d)
		turn(t, y, n, f)
		if l, k := facts(x), facts(y); !slices.Equal(l, k) {
			t.Fatalf("%v, and then %v", l, k)
		}
	}
}
