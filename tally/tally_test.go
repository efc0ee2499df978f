package tally

import (
	"math"
	"slices"
	"testing"

	"tenon/api"
)

const (
	top    = math.MaxUint32
	topKey = math.MaxUint64
)

func up(t *testing.T, x *Tally, key uint64, n, want uint32) {
	t.Helper()
	if c, e := x.Up(key, n); c != want || e != api.OK {
		t.Fatalf("Up(%d, %d) = %d, %v, not %d", key, n, c, e, want)
	}
	is(t, x, key, want)
}

func down(t *testing.T, x *Tally, key uint64, n, want uint32) {
	t.Helper()
	if c, e := x.Down(key, n); c != want || e != api.OK {
		t.Fatalf("Down(%d, %d) = %d, %v, not %d", key, n, c, e, want)
	}
	is(t, x, key, want)
}

func is(t *testing.T, x *Tally, key uint64, want uint32) {
	t.Helper()
	if c := x.Of(key); c != want {
		t.Fatalf("Of(%d) = %d, not %d", key, c, want)
	}
}

func sum(t *testing.T, x *Tally, want uint64) {
	t.Helper()
	if n := x.Sum(); n != want {
		t.Fatalf("Sum() = %d, not %d", n, want)
	}
}

type turn func(key uint64, n uint32) (uint32, api.Errno)

// refused: the count is told, and nothing is changed (R5), neither it nor another one.
func refused(t *testing.T, x *Tally, name string, call turn, key uint64, n, want uint32) {
	t.Helper()
	before, whole := entries(x), x.Sum()
	if c, e := call(key, n); c != want || e != api.ErrCount {
		t.Fatalf("%s(%d, %d) = %d, %v, not %d, ErrCount", name, key, n, c, e, want)
	}
	is(t, x, key, want)
	sum(t, x, whole)
	told(t, x, before...)
}

func refusedUp(t *testing.T, x *Tally, key uint64, n, want uint32) {
	t.Helper()
	refused(t, x, "Up", x.Up, key, n, want)
}

func refusedDown(t *testing.T, x *Tally, key uint64, n, want uint32) {
	t.Helper()
	refused(t, x, "Down", x.Down, key, n, want)
}

func entries(x *Tally) []entry {
	var l []entry
	for key, count := range x.All() {
		l = append(l, entry{key, count})
	}
	return l
}

func told(t *testing.T, x *Tally, want ...entry) {
	t.Helper()
	if l := entries(x); !slices.Equal(l, want) {
		t.Fatalf("All() tells %v, not %v", l, want)
	}
}

// P3.1

func TestTheExample(t *testing.T) {
	x := New(5)
	up(t, x, 7, 4, 4)
	refusedUp(t, x, 7, 2, 4)
	refusedDown(t, x, 7, 5, 4)
	down(t, x, 7, 4, 0)
}

func TestANewTallyHasNoCounts(t *testing.T) {
	for _, most := range []uint32{0, 1, 5, 1 << 31, top} {
		x := New(most)
		for _, key := range []uint64{0, 1, 1 << 32, 1 << 63, topKey} {
			is(t, x, key, 0)
		}
		sum(t, x, 0)
		told(t, x)
	}
}

func TestUpAndDown(t *testing.T) {
	x := New(100)
	up(t, x, 1, 3, 3)
	up(t, x, 1, 4, 7)
	up(t, x, 2, 10, 10)
	down(t, x, 1, 2, 5)
	sum(t, x, 15)
	is(t, x, 2, 10)
	down(t, x, 1, 5, 0)
	sum(t, x, 10)
	up(t, x, 1, 1, 1)
	sum(t, x, 11)
}

func TestUpGoesAsFarAsMost(t *testing.T) {
	for _, most := range []uint32{1, 2, 5, 1<<31 - 1, 1 << 31, 1<<31 + 1, top - 1, top} {
		x := New(most)
		up(t, x, 1, most, most)
		refusedUp(t, x, 1, 1, most)
		refusedUp(t, x, 1, most, most)
		refusedUp(t, x, 1, top, most)
		up(t, x, 1, 0, most)
		down(t, x, 1, 1, most-1)
		refusedUp(t, x, 1, 2, most-1)
		up(t, x, 1, 1, most)
		// Each key has the whole room to itself.
		up(t, x, 2, most, most)
		sum(t, x, 2*uint64(most))
	}
}

func TestUpAboveMostFromNothing(t *testing.T) {
	for _, most := range []uint32{0, 1, 5, 1 << 31, top - 1} {
		x := New(most)
		refusedUp(t, x, 1, most+1, 0)
		refusedUp(t, x, 1, top, 0)
	}
}

// What is counted would wrap to a number that has room: it is refused all the same.
func TestUpDoesNotWrap(t *testing.T) {
	x := New(10)
	up(t, x, 1, 7, 7)
	for _, n := range []uint32{top, top - 1, top - 6, top - 7, 1 << 31, 4} {
		refusedUp(t, x, 1, n, 7)
	}
	y := New(top)
	up(t, y, 1, 1, 1)
	refusedUp(t, y, 1, top, 1)
	up(t, y, 1, top-1, top)
	refusedUp(t, y, 1, 1, top)
}

func TestDownGoesAsFarAsZero(t *testing.T) {
	x := New(top)
	for _, n := range []uint32{1, 5, 1 << 31, top} {
		refusedDown(t, x, 1, n, 0)
	}
	up(t, x, 1, 5, 5)
	for _, n := range []uint32{6, 1 << 31, top} {
		refusedDown(t, x, 1, n, 5)
	}
	down(t, x, 1, 4, 1)
	refusedDown(t, x, 1, 2, 1)
	down(t, x, 1, 1, 0)
	refusedDown(t, x, 1, 1, 0)
	up(t, x, 1, top, top)
	down(t, x, 1, top, 0)
}

func TestANumberOfZeroIsNeverRefused(t *testing.T) {
	for _, most := range []uint32{0, 5, top} {
		x := New(most)
		up(t, x, 1, 0, 0)
		down(t, x, 1, 0, 0)
		told(t, x)
		up(t, x, 2, most, most)
		up(t, x, 2, 0, most)
		down(t, x, 2, 0, most)
		sum(t, x, uint64(most))
	}
}

func TestKeysThatAreAlike(t *testing.T) {
	x := New(1000)
	keys := []uint64{0, 1, 1 << 8, 1 << 31, 1 << 32, 1<<32 + 1, 1 << 63, 1<<63 + 1, topKey - 1, topKey}
	for i, key := range keys {
		up(t, x, key, uint32(i+1), uint32(i+1))
	}
	for i, key := range keys {
		is(t, x, key, uint32(i+1))
	}
	sum(t, x, 55)
	down(t, x, 1<<32, 5, 0)
	is(t, x, 0, 1)
	sum(t, x, 50)
}

func TestTheSumIsWiderThanACount(t *testing.T) {
	x := New(top)
	for key := range uint64(1000) {
		up(t, x, key, top, top)
	}
	sum(t, x, 1000*top)
	down(t, x, 500, top, 0)
	sum(t, x, 999*top)
}

func TestTalliesDoNotSeeOneAnother(t *testing.T) {
	x, y := New(5), New(5)
	up(t, x, 1, 4, 4)
	is(t, y, 1, 0)
	up(t, y, 1, 5, 5)
	is(t, x, 1, 4)
	down(t, x, 1, 4, 0)
	told(t, y, entry{1, 5})
}

func TestNilTally(t *testing.T) {
	var x *Tally
	for _, key := range []uint64{0, 1, topKey} {
		for _, n := range []uint32{0, 1, top} {
			refusedUp(t, x, key, n, 0)
			refusedDown(t, x, key, n, 0)
		}
	}
}

func TestATallyThatNewDidNotMake(t *testing.T) {
	x := new(Tally)
	up(t, x, 1, 0, 0)
	down(t, x, 1, 0, 0)
	refusedUp(t, x, 1, 1, 0)
	refusedUp(t, x, 1, top, 0)
	refusedDown(t, x, 1, 1, 0)
	told(t, x)
}

// P3.2

func TestAllGoesByRisingKeys(t *testing.T) {
	x := New(top)
	for i, key := range []uint64{1 << 63, 5, topKey, 0, 1 << 32, 1<<63 - 1, 2, 10} {
		up(t, x, key, uint32(i+1), uint32(i+1))
	}
	told(t, x, entry{0, 4}, entry{2, 7}, entry{5, 2}, entry{10, 8},
		entry{1 << 32, 5}, entry{1<<63 - 1, 6}, entry{1 << 63, 1}, entry{topKey, 3})
}

func TestAllLeavesOutWhatIsZero(t *testing.T) {
	x := New(5)
	up(t, x, 3, 0, 0)
	refusedUp(t, x, 4, 6, 0)
	refusedDown(t, x, 5, 1, 0)
	down(t, x, 6, 0, 0)
	is(t, x, 7, 0)
	told(t, x)
	up(t, x, 2, 3, 3)
	up(t, x, 1, 2, 2)
	told(t, x, entry{1, 2}, entry{2, 3})
	down(t, x, 1, 2, 0)
	told(t, x, entry{2, 3})
	up(t, x, 1, 5, 5)
	told(t, x, entry{1, 5}, entry{2, 3})
}

func TestAllStopsWhenItIsAskedTo(t *testing.T) {
	x := New(5)
	for key := range uint64(5) {
		up(t, x, key, 1, 1)
	}
	for most := 1; most <= 5; most++ {
		n := 0
		x.All()(func(uint64, uint32) bool {
			n++
			return n < most
		})
		if n != most {
			t.Errorf("it told %d and was asked to stop behind %d", n, most)
		}
	}
}

func TestAllTellsTheSameEachTime(t *testing.T) {
	x := New(5)
	up(t, x, 2, 1, 1)
	up(t, x, 1, 4, 4)
	all := x.All()
	for range all {
		break
	}
	for range 3 {
		var l []entry
		for key, count := range all {
			l = append(l, entry{key, count})
		}
		if !slices.Equal(l, []entry{{1, 4}, {2, 1}}) {
			t.Fatal(l)
		}
	}
	n := 0
	for range all {
		for range all {
			n++
		}
	}
	if n != 4 {
		t.Fatal(n)
	}
}

// A going over begins when it is ranged over: what was counted since All was called is told.
func TestAllBeginsWhenItIsGoneOver(t *testing.T) {
	x := New(5)
	all := x.All()
	up(t, x, 1, 4, 4)
	for range 2 {
		n := 0
		for key, count := range all {
			n++
			if key != 1 || count != 4 {
				t.Fatal(key, count)
			}
		}
		if n != 1 {
			t.Fatal(n)
		}
	}
	down(t, x, 1, 4, 0)
	for key := range all {
		t.Fatal(key)
	}
}

func TestAllTellsWhatWasThereWhenItBegan(t *testing.T) {
	x := New(9)
	for key := range uint64(4) {
		up(t, x, key, uint32(key+1), uint32(key+1))
	}
	var l []entry
	for key, count := range x.All() {
		l = append(l, entry{key, count})
		if len(l) > 1 {
			continue
		}
		down(t, x, 0, 1, 0)
		down(t, x, 2, 3, 0)
		up(t, x, 3, 5, 9)
		up(t, x, 7, 7, 7)
	}
	if !slices.Equal(l, []entry{{0, 1}, {1, 2}, {2, 3}, {3, 4}}) {
		t.Fatal(l)
	}
	told(t, x, entry{1, 2}, entry{3, 9}, entry{7, 7})
}

func TestDownWhatIsGoneOver(t *testing.T) {
	x := New(500)
	for key := range uint64(500) {
		up(t, x, key, uint32(key+1), uint32(key+1))
	}
	next := uint64(0)
	for key, count := range x.All() {
		if key != next {
			t.Fatal(key, next)
		}
		down(t, x, key, count, 0)
		next++
	}
	if next != 500 {
		t.Fatal(next)
	}
	told(t, x)
	sum(t, x, 0)
}

// P3.1 and P3.2 in long rows of calls: against a plain model, which searches each time and counts in wide numbers.

type model struct {
	most  int64
	keys  []uint64 // rising
	count []int64
}

func (m *model) turn(key uint64, by int64) (uint32, api.Errno) {
	i := slices.Index(m.keys, key)
	n := m.count[i] + by
	if n < 0 || n > m.most {
		return uint32(m.count[i]), api.ErrCount
	}
	m.count[i] = n
	return uint32(n), api.OK
}

func (m *model) agrees(t *testing.T, x *Tally) {
	t.Helper()
	var l []entry
	var whole uint64
	for i, key := range m.keys {
		n := uint32(m.count[i])
		is(t, x, key, n)
		whole += uint64(n)
		if n != 0 {
			l = append(l, entry{key, n})
		}
	}
	sum(t, x, whole)
	told(t, x, l...)
}

func play(t *testing.T, most, seed uint32) {
	t.Helper()
	x := New(most)
	m := &model{most: int64(most), keys: []uint64{0, 1, 2, 3, 1 << 31, 1 << 32, 1<<32 + 1, 1 << 63, topKey - 1, topKey}}
	m.count = make([]int64, len(m.keys))
	// A number is of one of these kinds: small, about most, or anything.
	number := func(dice uint32) uint32 {
		switch dice % 4 {
		case 0, 1:
			return dice >> 4 % 4
		case 2:
			return most - dice>>4%3
		}
		return dice * 2654435761
	}
	for range 2000 {
		seed = seed*1664525 + 1013904223
		dice := seed >> 8
		key, n := m.keys[int(dice>>2)%len(m.keys)], number(dice>>7)
		by, call, name := int64(n), x.Up, "Up"
		if dice%2 == 1 {
			by, call, name = -by, x.Down, "Down"
		}
		want, wantError := m.turn(key, by)
		if c, e := call(key, n); c != want || e != wantError {
			t.Fatalf("%s(%d, %d) = %d, %v, not %d, %v", name, key, n, c, e, want, wantError)
		}
		m.agrees(t, x)
	}
}

func TestLongRowsOfCalls(t *testing.T) {
	for _, most := range []uint32{0, 1, 2, 5, 100, 1<<31 - 1, 1 << 31, top - 1, top} {
		for seed := range uint32(4) {
			play(t, most, seed)
		}
	}
}
