package arena

import (
	"iter"
	"math"
	"slices"
	"testing"

	"tenon/api"
)

const top = math.MaxUint32

type pair struct {
	h uint64
	x string
}

func made(t *testing.T, most int, first uint32) *Arena[string] {
	t.Helper()
	a, e := New[string](most, first)
	if e != api.OK || a == nil {
		t.Fatalf("New(%d, %d) = %v, %v", most, first, a, e)
	}
	return a
}

func put(t *testing.T, a *Arena[string], x string, want uint64) uint64 {
	t.Helper()
	h, e := a.Put(x)
	if h != want || e != api.OK {
		t.Fatalf("Put(%q) = %#x, %v, not %#x", x, h, e, want)
	}
	return h
}

func full(t *testing.T, a *Arena[string]) {
	t.Helper()
	if h, e := a.Put("more"); h != 0 || e != api.ErrFull {
		t.Fatalf("Put = %#x, %v, not ErrFull", h, e)
	}
}

func drop(t *testing.T, a *Arena[string], h uint64, want string) {
	t.Helper()
	if x, e := a.Drop(h); x != want || e != api.OK {
		t.Fatalf("Drop(%#x) = %q, %v, not %q", h, x, e, want)
	}
}

func found(t *testing.T, a *Arena[string], h uint64, want string) {
	t.Helper()
	if x, e := a.Get(h); x != want || e != api.OK {
		t.Fatalf("Get(%#x) = %q, %v, not %q", h, x, e, want)
	}
}

// stale: R5 too, a refused call leaves all as it was.
func stale(t *testing.T, a *Arena[string], h uint64) {
	t.Helper()
	before, n := pairs(a.All()), a.Len()
	if x, e := a.Get(h); x != "" || e != api.ErrStale {
		t.Fatalf("Get(%#x) = %q, %v, not ErrStale", h, x, e)
	}
	if e := a.Set(h, "stale"); e != api.ErrStale {
		t.Fatalf("Set(%#x) = %v, not ErrStale", h, e)
	}
	if x, e := a.Drop(h); x != "" || e != api.ErrStale {
		t.Fatalf("Drop(%#x) = %q, %v, not ErrStale", h, x, e)
	}
	if after := pairs(a.All()); !slices.Equal(before, after) || a.Len() != n {
		t.Fatalf("the stale handle %#x turned %v into %v", h, before, after)
	}
}

func pairs(all iter.Seq2[uint64, string]) []pair {
	var l []pair
	for h, x := range all {
		l = append(l, pair{h, x})
	}
	return l
}

func told(t *testing.T, a *Arena[string], want ...pair) {
	t.Helper()
	if l := pairs(a.All()); !slices.Equal(l, want) {
		t.Fatalf("All tells %v, not %v", l, want)
	}
	if a.Len() != len(want) {
		t.Fatalf("Len() = %d, not %d", a.Len(), len(want))
	}
}

// of is the handle of a place and a generation, as the document says it.
func of(place int, generation uint32) uint64 {
	return uint64(generation)*(1<<32) + uint64(place) + 1
}

// P2.1

func TestNew(t *testing.T) {
	for _, most := range []int{1, 2, 255, 65535, 65536} {
		for _, first := range []uint32{1, 2, 1 << 31, top} {
			told(t, made(t, most, first))
		}
	}
}

func TestNewRefuses(t *testing.T) {
	for _, most := range []int{0, -1, 65537, math.MaxInt32, math.MaxInt, math.MinInt, 1 << 16 * 3, 1<<32 + 1} {
		for _, first := range []uint32{0, 1, top} {
			if a, e := New[string](most, first); a != nil || e != api.ErrArg {
				t.Errorf("New(%d, %d) = %v, %v", most, first, a, e)
			}
		}
	}
	for _, most := range []int{1, 2, 65536} {
		if a, e := New[string](most, 0); a != nil || e != api.ErrArg {
			t.Errorf("New(%d, 0) = %v, %v", most, a, e)
		}
	}
}

func TestPutTakesTheLeastNewPlace(t *testing.T) {
	for _, first := range []uint32{1, 7, top} {
		a := made(t, 3, first)
		put(t, a, "a", of(0, first))
		put(t, a, "b", of(1, first))
		put(t, a, "c", of(2, first))
		full(t, a)
		told(t, a, pair{of(0, first), "a"}, pair{of(1, first), "b"}, pair{of(2, first), "c"})
	}
}

func TestPutTakesThePlaceDroppedLast(t *testing.T) {
	a := made(t, 5, 1)
	for i, x := range []string{"a", "b", "c", "d"} {
		put(t, a, x, of(i, 1))
	}
	drop(t, a, of(2, 1), "c")
	drop(t, a, of(0, 1), "a")
	drop(t, a, of(3, 1), "d")
	put(t, a, "e", of(3, 2))
	put(t, a, "f", of(0, 2))
	// Place 0 is dropped once more: it is ahead of place 2 again, which waits still.
	drop(t, a, of(0, 2), "f")
	put(t, a, "g", of(0, 3))
	put(t, a, "h", of(2, 2))
	put(t, a, "i", of(4, 1))
	full(t, a)
	told(t, a, pair{of(0, 3), "g"}, pair{of(1, 1), "b"}, pair{of(2, 2), "h"}, pair{of(3, 2), "e"}, pair{of(4, 1), "i"})
}

func TestPutTakesADroppedPlaceAheadOfANewOne(t *testing.T) {
	a := made(t, 65536, 1)
	h := put(t, a, "x", of(0, 1))
	for g := uint32(2); g < 1000; g++ {
		drop(t, a, h, "x")
		h = put(t, a, "x", of(0, g))
	}
	put(t, a, "y", of(1, 1))
}

func TestTheGreatestArena(t *testing.T) {
	a := made(t, 65536, 1)
	for i := range 65536 {
		put(t, a, "x", of(i, 1))
	}
	full(t, a)
	if a.Len() != 65536 {
		t.Fatal(a.Len())
	}
	found(t, a, of(65535, 1), "x")
	stale(t, a, of(65536, 1))
	drop(t, a, of(40000, 1), "x")
	put(t, a, "y", of(40000, 2))
	full(t, a)
}

func TestWhatIsFullStaysAsItWas(t *testing.T) {
	a := made(t, 1, 1)
	h := put(t, a, "a", of(0, 1))
	for range 5 {
		full(t, a)
		told(t, a, pair{h, "a"})
	}
	drop(t, a, h, "a")
	put(t, a, "b", of(0, 2))
}

func TestAWornOutPlaceIsTakenNoMore(t *testing.T) {
	a := made(t, 1, top)
	h := put(t, a, "a", of(0, top))
	found(t, a, h, "a")
	drop(t, a, h, "a")
	told(t, a)
	for range 3 {
		full(t, a)
		stale(t, a, h)
		stale(t, a, of(0, 0))
		stale(t, a, of(0, 1))
	}
}

func TestAPlaceWearsOutByItsGeneration(t *testing.T) {
	a := made(t, 3, top-2)
	put(t, a, "a", of(0, top-2))
	put(t, a, "b", of(1, top-2))
	for g := uint32(top - 2); g < top; g++ {
		drop(t, a, of(0, g), "a")
		put(t, a, "a", of(0, g+1))
	}
	drop(t, a, of(1, top-2), "b")
	drop(t, a, of(0, top), "a")
	// Place 0 was dropped last, but it is worn out: 1 comes, and then 2, which is new.
	put(t, a, "c", of(1, top-1))
	put(t, a, "d", of(2, top-2))
	full(t, a)
	told(t, a, pair{of(1, top-1), "c"}, pair{of(2, top-2), "d"})
}

func TestAllPlacesWornOut(t *testing.T) {
	a := made(t, 4, top)
	for i := range 4 {
		drop(t, a, put(t, a, "a", of(i, top)), "a")
	}
	full(t, a)
	told(t, a)
}

// P2.2

func TestGetSetDrop(t *testing.T) {
	a := made(t, 2, 1)
	h, k := put(t, a, "a", of(0, 1)), put(t, a, "b", of(1, 1))
	found(t, a, h, "a")
	found(t, a, k, "b")
	if e := a.Set(h, "c"); e != api.OK {
		t.Fatal(e)
	}
	found(t, a, h, "c")
	found(t, a, h, "c")
	found(t, a, k, "b")
	told(t, a, pair{h, "c"}, pair{k, "b"})
	drop(t, a, h, "c")
	stale(t, a, h)
	found(t, a, k, "b")
	told(t, a, pair{k, "b"})
}

func TestHandlesThatNobodyGaveAreStale(t *testing.T) {
	a := made(t, 4, 5)
	h, k := put(t, a, "a", of(0, 5)), put(t, a, "b", of(1, 5))
	drop(t, a, k, "b")
	wrong := []uint64{0, 1, 2, 5, 5 << 32, math.MaxUint64, math.MaxUint32, 1 << 63, h ^ 1<<63, h ^ 1<<31, h + 1<<16,
		of(0, 4), of(0, 6), of(0, top), of(1, 5), of(2, 5), of(3, 5), of(4, 5), of(65535, 5), of(65536, 5)}
	for i := range 64 {
		wrong = append(wrong, h^1<<i)
	}
	for _, w := range wrong {
		stale(t, a, w)
	}
	// The free place has this generation already, but nothing is there.
	stale(t, a, of(1, 6))
	found(t, a, h, "a")
	// No stale handle has changed which place is next.
	put(t, a, "c", of(1, 6))
	put(t, a, "d", of(2, 5))
}

func TestAHandleOfWhatIsGoneFindsNothing(t *testing.T) {
	a := made(t, 1, 1)
	var gone []uint64
	for g := uint32(1); g < 20; g++ {
		h := put(t, a, "x", of(0, g))
		for _, k := range gone {
			stale(t, a, k)
		}
		found(t, a, h, "x")
		drop(t, a, h, "x")
		stale(t, a, h)
		gone = append(gone, h)
	}
}

func TestZeroValuesAreThings(t *testing.T) {
	a, _ := New[*int](2, 1)
	h, e := a.Put(nil)
	if h != of(0, 1) || e != api.OK || a.Len() != 1 {
		t.Fatal(h, e)
	}
	if x, e := a.Get(h); x != nil || e != api.OK {
		t.Fatal(x, e)
	}
	if x, e := a.Drop(h); x != nil || e != api.OK || a.Len() != 0 {
		t.Fatal(x, e)
	}
	b, _ := New[struct{}](1, 1)
	k, e := b.Put(struct{}{})
	if k != of(0, 1) || e != api.OK {
		t.Fatal(k, e)
	}
	if _, e := b.Put(struct{}{}); e != api.ErrFull {
		t.Fatal(e)
	}
}

func TestArenasDoNotSeeOneAnother(t *testing.T) {
	a, b := made(t, 2, 1), made(t, 2, 1)
	h := put(t, a, "a", of(0, 1))
	stale(t, b, h)
	put(t, b, "b", of(0, 1))
	drop(t, a, h, "a")
	found(t, b, h, "b")
}

func TestNilArena(t *testing.T) {
	for _, a := range []*Arena[string]{nil, new(Arena[string])} {
		full(t, a)
		for _, h := range []uint64{0, 1, of(0, 1), math.MaxUint64} {
			stale(t, a, h)
		}
		told(t, a)
	}
}

// P2.3

func TestAllGoesByRisingPlaces(t *testing.T) {
	a := made(t, 6, 1)
	told(t, a)
	for i, x := range []string{"a", "b", "c", "d", "e"} {
		put(t, a, x, of(i, 1))
	}
	drop(t, a, of(0, 1), "a")
	drop(t, a, of(4, 1), "e")
	drop(t, a, of(2, 1), "c")
	told(t, a, pair{of(1, 1), "b"}, pair{of(3, 1), "d"})
	put(t, a, "f", of(2, 2))
	put(t, a, "g", of(4, 2))
	told(t, a, pair{of(1, 1), "b"}, pair{of(2, 2), "f"}, pair{of(3, 1), "d"}, pair{of(4, 2), "g"})
}

func TestAllStopsWhenItIsAskedTo(t *testing.T) {
	a := made(t, 5, 1)
	for i := range 5 {
		put(t, a, "x", of(i, 1))
	}
	for most := 1; most <= 5; most++ {
		n := 0
		a.All()(func(uint64, string) bool {
			n++
			return n < most
		})
		if n != most {
			t.Errorf("it told %d and was asked to stop behind %d", n, most)
		}
	}
}

func TestAllTellsTheSameEachTime(t *testing.T) {
	a := made(t, 3, 1)
	h, k := put(t, a, "a", of(0, 1)), put(t, a, "b", of(1, 1))
	all := a.All()
	for range all {
		break
	}
	for range 3 {
		if l := pairs(all); !slices.Equal(l, []pair{{h, "a"}, {k, "b"}}) {
			t.Fatal(l)
		}
	}
	n := 0
	for range all {
		for range all {
			n++
		}
	}
	if n != 4 {
		t.Fatal(n)
	}
}

// A going over begins when it is ranged over: what was put since All was called is told.
func TestAllBeginsWhenItIsGoneOver(t *testing.T) {
	a := made(t, 3, 1)
	all := a.All()
	if l := pairs(all); len(l) != 0 {
		t.Fatal(l)
	}
	h := put(t, a, "a", of(0, 1))
	if l := pairs(all); !slices.Equal(l, []pair{{h, "a"}}) {
		t.Fatal(l)
	}
	drop(t, a, h, "a")
	if l := pairs(all); len(l) != 0 {
		t.Fatal(l)
	}
}

func TestAllTellsWhatWasThereWhenItBegan(t *testing.T) {
	a := made(t, 4, 1)
	for i, x := range []string{"a", "b", "c"} {
		put(t, a, x, of(i, 1))
	}
	drop(t, a, of(1, 1), "b")
	var l []pair
	for h, x := range a.All() {
		l = append(l, pair{h, x})
		if len(l) > 1 {
			continue
		}
		put(t, a, "d", of(1, 2))
		put(t, a, "e", of(3, 1))
		drop(t, a, of(0, 1), "a")
		put(t, a, "f", of(0, 2))
		if a.Set(of(2, 1), "g") != api.OK {
			t.Fatal("set")
		}
	}
	if !slices.Equal(l, []pair{{of(0, 1), "a"}, {of(2, 1), "c"}}) {
		t.Fatal(l)
	}
	told(t, a, pair{of(0, 2), "f"}, pair{of(1, 2), "d"}, pair{of(2, 1), "g"}, pair{of(3, 1), "e"})
}

func TestDropWhatIsGoneOver(t *testing.T) {
	a := made(t, 100, 1)
	for i := range 100 {
		put(t, a, "x", of(i, 1))
	}
	n := 0
	for h, x := range a.All() {
		if h != of(n, 1) {
			t.Fatal(h)
		}
		drop(t, a, h, x)
		n++
	}
	if n != 100 {
		t.Fatal(n)
	}
	told(t, a)
	put(t, a, "y", of(99, 2))
}

func TestSplit(t *testing.T) {
	tests := []struct {
		h          uint64
		place      int
		generation uint32
	}{
		{0, -1, 0},
		{1, 0, 0},
		{1 << 32, -1, 1},
		{1<<32 + 1, 0, 1},
		{2<<32 + 1, 0, 2},
		{1<<32 + 65536, 65535, 1},
		{1<<32 - 1, 1<<32 - 2, 0},
		{1 << 31, 1<<31 - 1, 0},
		{top << 32, -1, top},
		{top<<32 + 1, 0, top},
		{math.MaxUint64, 1<<32 - 2, top},
	}
	for _, x := range tests {
		if place, generation := Split(x.h); place != x.place || generation != x.generation {
			t.Errorf("Split(%#x) = %d, %d", x.h, place, generation)
		}
	}
}

func TestSplitOfWhatWasGiven(t *testing.T) {
	for _, first := range []uint32{1, 1 << 31, top} {
		a := made(t, 300, first)
		for i := range 300 {
			if place, generation := Split(put(t, a, "x", of(i, first))); place != i || generation != first {
				t.Fatal(place, generation)
			}
		}
	}
}

// P2.4, and the others in long rows of calls: against a plain model, which searches each time.

type slot struct {
	x          string
	generation uint32
	taken      bool
	worn       bool
	dropped    int // when, 0: nothing ever was there
}

type model []slot

func (m model) next() int {
	best := -1
	for i, s := range m {
		free := !s.taken && !s.worn && s.dropped > 0
		if free && (best < 0 || s.dropped > m[best].dropped) {
			best = i
		}
	}
	if best >= 0 {
		return best
	}
	return slices.IndexFunc(m, func(s slot) bool { return !s.taken && s.dropped == 0 })
}

func (m model) at(h uint64) *slot {
	for i := range m {
		if m[i].taken && of(i, m[i].generation) == h {
			return &m[i]
		}
	}
	return nil
}

func (m model) pairs() []pair {
	var l []pair
	for i, s := range m {
		if s.taken {
			l = append(l, pair{of(i, s.generation), s.x})
		}
	}
	return l
}

func (m model) put(t *testing.T, a *Arena[string], x string) uint64 {
	t.Helper()
	i := m.next()
	if i < 0 {
		full(t, a)
		return 0
	}
	m[i].x, m[i].taken = x, true
	return put(t, a, x, of(i, m[i].generation))
}

func (m model) drop(t *testing.T, a *Arena[string], h uint64, now int) {
	t.Helper()
	s := m.at(h)
	if s == nil {
		stale(t, a, h)
		return
	}
	drop(t, a, h, s.x)
	s.taken, s.dropped, s.worn = false, now, s.generation == top
	if !s.worn {
		s.generation++
	}
}

func (m model) set(t *testing.T, a *Arena[string], h uint64, x string) {
	t.Helper()
	s := m.at(h)
	if s == nil {
		stale(t, a, h)
		return
	}
	if e := a.Set(h, x); e != api.OK {
		t.Fatalf("Set(%#x) = %v", h, e)
	}
	s.x = x
}

func play(t *testing.T, most int, first uint32, seed uint32) {
	a, m := made(t, most, first), make(model, most)
	for i := range m {
		m[i].generation = first
	}
	given := map[uint64]int{}
	var handles []uint64
	for now := 1; now <= 600; now++ {
		seed = seed*1664525 + 1013904223
		dice := int(seed >> 16)
		x := string(rune('a' + now%26))
		if dice%8 < 4 || len(handles) == 0 {
			if h := m.put(t, a, x); h != 0 {
				given[h]++
				handles = append(handles, h)
			}
		} else {
			// Half of them among the newest, so that living ones are met often.
			h := handles[dice/8%len(handles)]
			if dice%2 == 0 {
				h = handles[len(handles)-1-dice/8%min(most, len(handles))]
			}
			if dice%8 == 7 {
				m.set(t, a, h, x)
			} else {
				m.drop(t, a, h, now)
			}
		}
		told(t, a, m.pairs()...)
	}
	for h, n := range given {
		if n > 1 {
			t.Errorf("the handle %#x was given %d times", h, n)
		}
	}
}

func TestNoHandleTwice(t *testing.T) {
	for seed := range uint32(4) {
		for _, most := range []int{1, 2, 3, 7, 20} {
			for _, first := range []uint32{1, 1 << 31, top - 40, top - 5, top - 1, top} {
				play(t, most, first, seed)
			}
		}
	}
}
