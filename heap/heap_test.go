package heap

import (
	"iter"
	"math"
	"slices"
	"testing"

	"tenon/api"
)

const top = math.MaxUint32

var none = api.Link{}

func linkTo(h uint64) api.Link { return api.Link{Kind: 1, H: h} }

func foreign(h uint64) api.Link { return api.Link{Kind: 2, H: h} }

// of is the handle of a place and a generation, as layer 2 says it.
func of(place int, generation uint32) uint64 {
	return uint64(generation)*(1<<32) + uint64(place) + 1
}

func created(t *testing.T, most int, top uint32) *Heap {
	t.Helper()
	p, e := New(most, top)
	if e != api.OK || p == nil {
		t.Fatalf("New(%d, %d) = %v, %v", most, top, p, e)
	}
	return p
}

func made(t *testing.T, p *Heap, slots int, outer uint64) uint64 {
	t.Helper()
	h, e := p.Make(slots, outer)
	if h == 0 || e != api.OK {
		t.Fatalf("Make(%d, %#x) = %#x, %v", slots, outer, h, e)
	}
	return h
}

// wholes makes n of them, each with that many slots.
func wholes(t *testing.T, p *Heap, n, slots int) []uint64 {
	t.Helper()
	var l []uint64
	for range n {
		l = append(l, made(t, p, slots, 0))
	}
	return l
}

func ups(t *testing.T, p *Heap, h uint64, n int) {
	t.Helper()
	for range n {
		if _, e := p.Up(h); e != api.OK {
			t.Fatalf("Up(%#x) = %v", h, e)
		}
	}
}

// ends is what Down, Put and Remove answer.
type ends struct {
	gone, foreign []uint64
	e             api.Errno
}

func end(gone, foreign []uint64, e api.Errno) ends { return ends{gone, foreign, e} }

func (x ends) same(y ends) bool {
	return slices.Equal(x.gone, y.gone) && slices.Equal(x.foreign, y.foreign) && x.e == y.e
}

func told(t *testing.T, x ends, gone []uint64, foreign ...uint64) {
	t.Helper()
	if want := (ends{gone, foreign, api.OK}); !x.same(want) {
		t.Fatalf("told %#x, not %#x", x, want)
	}
}

func put(t *testing.T, p *Heap, h uint64, slot int, x api.Link) {
	t.Helper()
	told(t, end(p.Put(h, slot, x)), nil)
}

func counts(t *testing.T, p *Heap, h uint64, want uint32) {
	t.Helper()
	if n := p.Count(h); n != want {
		t.Fatalf("Count(%#x) = %d, not %d", h, n, want)
	}
}

func links(p *Heap, h uint64) []api.Link {
	var l []api.Link
	for slot, x := range p.Links(h) {
		if slot != len(l) {
			return nil
		}
		l = append(l, x)
	}
	return l
}

func holds(t *testing.T, p *Heap, h uint64, want ...api.Link) {
	t.Helper()
	if l := links(p, h); !slices.Equal(l, want) {
		t.Fatalf("Links(%#x) tells %v, not %v", h, l, want)
	}
}

func has(t *testing.T, p *Heap, want ...uint64) {
	t.Helper()
	if l := slices.Collect(p.All()); !slices.Equal(l, want) {
		t.Fatalf("All tells %#x, not %#x", l, want)
	}
}

// graph is what Graph answers, with what each list has made alike whether it is nil or empty.
type graph struct {
	counts []uint32
	edges  [][]int
	wholes []uint64
}

func graphOf(p *Heap) graph {
	g, l := p.Graph()
	return graph{g.Counts, g.Edges, l}
}

func (g graph) same(h graph) bool {
	return slices.Equal(g.counts, h.counts) && slices.EqualFunc(g.edges, h.edges, slices.Equal[[]int]) && slices.Equal(g.wholes, h.wholes)
}

func shows(t *testing.T, p *Heap, want graph) {
	t.Helper()
	if g := graphOf(p); !g.same(want) {
		t.Fatalf("Graph() = %v, not %v", g, want)
	}
}

// state is all that can be told of a heap without turning it.
type state struct {
	all   []uint64
	each  []seen
	graph graph
}

type seen struct {
	value int64
	whole uint64
	count uint32
	links []api.Link
}

func stateOf(p *Heap) state {
	s := state{all: slices.Collect(p.All()), graph: graphOf(p)}
	for _, h := range s.all {
		value, _ := p.Value(h)
		whole, _ := p.Whole(h)
		s.each = append(s.each, seen{value, whole, p.Count(h), links(p, h)})
	}
	return s
}

func (s state) same(x state) bool {
	return slices.Equal(s.all, x.all) && s.graph.same(x.graph) && slices.EqualFunc(s.each, x.each, func(a, b seen) bool {
		return a.value == b.value && a.whole == b.whole && a.count == b.count && slices.Equal(a.links, b.links)
	})
}

// unchanged: R5, a refused call leaves all as it was.
func unchanged(t *testing.T, p *Heap, call func()) {
	t.Helper()
	before := stateOf(p)
	call()
	if after := stateOf(p); !before.same(after) {
		t.Fatalf("a refused call turned %v into %v", before, after)
	}
}

func makeRefused(t *testing.T, p *Heap, slots int, outer uint64, want api.Errno) {
	t.Helper()
	unchanged(t, p, func() {
		if h, e := p.Make(slots, outer); h != 0 || e != want {
			t.Fatalf("Make(%d, %#x) = %#x, %v, not %v", slots, outer, h, e, want)
		}
	})
}

func upRefused(t *testing.T, p *Heap, h uint64, want api.Errno) {
	t.Helper()
	unchanged(t, p, func() {
		if n, e := p.Up(h); n != 0 || e != want {
			t.Fatalf("Up(%#x) = %d, %v, not %v", h, n, e, want)
		}
	})
}

func putRefused(t *testing.T, p *Heap, h uint64, slot int, x api.Link, want api.Errno) {
	t.Helper()
	unchanged(t, p, func() {
		if x := end(p.Put(h, slot, x)); !x.same(ends{e: want}) {
			t.Fatalf("Put(%#x, %d) = %#x, not %v", h, slot, x, want)
		}
	})
}

func removeRefused(t *testing.T, p *Heap, l []uint64, want api.Errno) {
	t.Helper()
	unchanged(t, p, func() {
		if x := end(p.Remove(l)); !x.same(ends{e: want}) {
			t.Fatalf("Remove(%#x) = %#x, not %v", l, x, want)
		}
	})
}

// stale: no call finds anything by h.
func stale(t *testing.T, p *Heap, h uint64) {
	t.Helper()
	unchanged(t, p, func() {
		upRefused(t, p, h, api.ErrStale)
		if x := end(p.Down(h)); !x.same(ends{e: api.ErrStale}) {
			t.Fatalf("Down(%#x) = %#x", h, x)
		}
		putRefused(t, p, h, 0, none, api.ErrStale)
		removeRefused(t, p, []uint64{h}, api.ErrStale)
		if n, e := p.Value(h); n != 0 || e != api.ErrStale {
			t.Fatalf("Value(%#x) = %d, %v", h, n, e)
		}
		if e := p.Store(h, 5); e != api.ErrStale {
			t.Fatalf("Store(%#x) = %v", h, e)
		}
		if w, e := p.Whole(h); w != 0 || e != api.ErrStale {
			t.Fatalf("Whole(%#x) = %#x, %v", h, w, e)
		}
		counts(t, p, h, 0)
		holds(t, p, h)
	})
}

// P11.1

func TestNew(t *testing.T) {
	for _, most := range []int{1, 2, 255, 256} {
		for _, top := range []uint32{1, 2, 1 << 31, top} {
			p := created(t, most, top)
			has(t, p)
			shows(t, p, graph{})
		}
	}
}

func TestNewRefuses(t *testing.T) {
	for _, most := range []int{0, -1, 257, 65536, math.MaxInt, math.MinInt, 1<<32 + 1, 1<<8 + 1<<32} {
		for _, top := range []uint32{0, 1, top} {
			if p, e := New(most, top); p != nil || e != api.ErrArg {
				t.Errorf("New(%d, %d) = %v, %v", most, top, p, e)
			}
		}
	}
	for _, most := range []int{1, 2, 256} {
		if p, e := New(most, 0); p != nil || e != api.ErrArg {
			t.Errorf("New(%d, 0) = %v, %v", most, p, e)
		}
	}
}

func TestMake(t *testing.T) {
	p := created(t, 256, 1)
	for slots := range api.MaxSlots + 1 {
		h := made(t, p, slots, 0)
		if h != of(slots, 1) {
			t.Fatalf("%#x", h)
		}
		counts(t, p, h, 1)
		holds(t, p, h, make([]api.Link, slots)...)
		if w, e := p.Whole(h); w != h || e != api.OK {
			t.Fatal(w, e)
		}
		if n, e := p.Value(h); n != 0 || e != api.OK {
			t.Fatal(n, e)
		}
	}
}

func TestMakeAnInner(t *testing.T) {
	p := created(t, 5, 3)
	a, b := made(t, p, 1, 0), made(t, p, 0, 0)
	ups(t, p, a, 1)
	c, d := made(t, p, 8, a), made(t, p, 0, b)
	// An inner isn't one that holds, and has no count of its own.
	counts(t, p, a, 2)
	counts(t, p, c, 2)
	counts(t, p, d, 1)
	for _, x := range [][2]uint64{{a, a}, {b, b}, {c, a}, {d, b}} {
		if w, e := p.Whole(x[0]); w != x[1] || e != api.OK {
			t.Fatalf("Whole(%#x) = %#x, %v", x[0], w, e)
		}
	}
	holds(t, p, c, make([]api.Link, 8)...)
	holds(t, p, d)
	has(t, p, a, b, c, d)
}

func TestMakeRefuses(t *testing.T) {
	p := created(t, 4, 3)
	a := made(t, p, 1, 0)
	b := made(t, p, 1, a)
	gone := made(t, p, 0, 0)
	told(t, end(p.Down(gone)), []uint64{gone})
	wrongSlots := []int{-1, 9, math.MaxInt, math.MinInt, 1 << 32, 1<<32 + 8}
	stale := []uint64{gone, 1, 2, math.MaxUint64, of(2, 2), of(3, 1), a ^ 1<<63}
	refuse := func() {
		for _, slots := range wrongSlots {
			// The slots are asked ahead of the outer one.
			for _, outer := range append([]uint64{0, a, b}, stale...) {
				makeRefused(t, p, slots, outer, api.ErrArg)
			}
		}
		for _, outer := range stale {
			makeRefused(t, p, 0, outer, api.ErrStale)
			makeRefused(t, p, 8, outer, api.ErrStale)
		}
		makeRefused(t, p, 0, b, api.ErrArg)
		makeRefused(t, p, 8, b, api.ErrArg)
	}
	refuse()
	// What was refused took no place.
	if c := made(t, p, 0, 0); c != of(2, 2) {
		t.Fatalf("%#x", c)
	}
	stale[4] = of(2, 3)
	made(t, p, 0, a)
	stale[5] = of(4, 1)
	// Without room the other errors are told ahead of ErrFull.
	refuse()
	makeRefused(t, p, 0, 0, api.ErrFull)
	makeRefused(t, p, 8, a, api.ErrFull)
}

func TestAnInnerThatWasRefusedDoesNotGo(t *testing.T) {
	p := created(t, 2, 1)
	a, b := made(t, p, 0, 0), made(t, p, 0, 0)
	makeRefused(t, p, 0, a, api.ErrFull)
	told(t, end(p.Down(b)), []uint64{b})
	c := made(t, p, 0, 0)
	told(t, end(p.Down(a)), []uint64{a})
	has(t, p, c)
}

func TestPlacesAreTakenAsAnArenaTakesThem(t *testing.T) {
	p := created(t, 6, 1)
	a := made(t, p, 0, 0)
	b := made(t, p, 0, 0)
	c, d := made(t, p, 0, a), made(t, p, 0, a)
	told(t, end(p.Down(c)), []uint64{a, c, d})
	has(t, p, b)
	// What went last gives its place first.
	for _, want := range []uint64{of(3, 2), of(2, 2), of(0, 2), of(4, 1), of(5, 1)} {
		if h := made(t, p, 0, 0); h != want {
			t.Fatalf("%#x, not %#x", h, want)
		}
	}
	makeRefused(t, p, 0, 0, api.ErrFull)
	for _, h := range []uint64{a, c, d} {
		stale(t, p, h)
	}
}

func TestTheGreatestHeap(t *testing.T) {
	p := created(t, 256, 1)
	l := wholes(t, p, 256, 8)
	makeRefused(t, p, 0, 0, api.ErrFull)
	has(t, p, l...)
	g, of := p.Graph()
	if len(g.Counts) != 256 || len(g.Edges) != 256 || len(of) != 256 {
		t.Fatal(len(g.Counts), len(g.Edges), len(of))
	}
}

// P11.2

func TestUpAndDown(t *testing.T) {
	p := created(t, 3, 3)
	a := made(t, p, 1, 0)
	b := made(t, p, 1, a)
	for _, x := range []struct {
		h    uint64
		want uint32
	}{{a, 2}, {b, 3}} {
		if n, e := p.Up(x.h); n != x.want || e != api.OK {
			t.Fatalf("Up(%#x) = %d, %v", x.h, n, e)
		}
		counts(t, p, a, x.want)
		counts(t, p, b, x.want)
	}
	upRefused(t, p, a, api.ErrCount)
	upRefused(t, p, b, api.ErrCount)
	told(t, end(p.Down(b)), nil)
	counts(t, p, a, 2)
	told(t, end(p.Down(a)), nil)
	counts(t, p, b, 1)
	told(t, end(p.Down(b)), []uint64{a, b})
	has(t, p)
	stale(t, p, a)
	stale(t, p, b)
}

func TestTop(t *testing.T) {
	p := created(t, 2, 1)
	a := made(t, p, 1, 0)
	upRefused(t, p, a, api.ErrCount)
	putRefused(t, p, a, 0, linkTo(a), api.ErrCount)
	b := made(t, p, 0, a)
	upRefused(t, p, b, api.ErrCount)
	told(t, end(p.Down(a)), []uint64{a, b})
	q := created(t, 1, 300)
	c := made(t, q, 0, 0)
	ups(t, q, c, 299)
	upRefused(t, q, c, api.ErrCount)
	counts(t, q, c, 300)
	for range 299 {
		told(t, end(q.Down(c)), nil)
	}
	told(t, end(q.Down(c)), []uint64{c})
}

func TestValues(t *testing.T) {
	p := created(t, 3, 1)
	a := made(t, p, 0, 0)
	b, c := made(t, p, 0, a), made(t, p, 0, 0)
	store := func(h uint64, n int64) {
		if e := p.Store(h, n); e != api.OK {
			t.Fatal(e)
		}
	}
	values := func(want ...int64) {
		t.Helper()
		for i, h := range []uint64{a, b, c} {
			if n, e := p.Value(h); n != want[i] || e != api.OK {
				t.Fatalf("Value(%#x) = %d, %v, not %d", h, n, e, want[i])
			}
		}
	}
	values(0, 0, 0)
	store(a, math.MaxInt64)
	values(math.MaxInt64, 0, 0)
	// An inner has a value of its own.
	store(b, math.MinInt64)
	store(c, -1)
	values(math.MaxInt64, math.MinInt64, -1)
	store(a, 0)
	values(0, math.MinInt64, -1)
	p.Down(c)
	c = made(t, p, 0, 0)
	values(0, math.MinInt64, 0)
}

func TestHandlesThatNobodyGaveAreStale(t *testing.T) {
	p := created(t, 4, 3)
	a := made(t, p, 1, 0)
	b := made(t, p, 1, a)
	gone := made(t, p, 1, 0)
	p.Down(gone)
	wrong := []uint64{0, 1, 2, 3, 1 << 32, 1 << 63, math.MaxUint64, gone, of(2, 2), of(3, 1), of(0, 0), of(0, 2), of(255, 1), of(256, 1)}
	for i := range 64 {
		if h := a ^ 1<<i; h != b {
			wrong = append(wrong, h)
		}
	}
	for _, h := range wrong {
		stale(t, p, h)
	}
	if h := made(t, p, 0, 0); h != of(2, 2) {
		t.Fatalf("%#x", h)
	}
}

func TestLinksTellsWhatWasThereWhenItBegan(t *testing.T) {
	p := created(t, 3, 9)
	a := made(t, p, 3, 0)
	all := p.Links(a)
	collect := func() []api.Link {
		var l []api.Link
		for slot, x := range all {
			if slot != len(l) {
				t.Fatal(slot)
			}
			l = append(l, x)
		}
		return l
	}
	put(t, p, a, 1, foreign(5))
	// It begins when it is gone over, not when Links is called.
	if l := collect(); !slices.Equal(l, []api.Link{none, foreign(5), none}) {
		t.Fatal(l)
	}
	var l []api.Link
	for slot, x := range all {
		l = append(l, x)
		if slot == 0 {
			p.Put(a, 1, none)
			p.Put(a, 2, foreign(7))
		}
	}
	if !slices.Equal(l, []api.Link{none, foreign(5), none}) {
		t.Fatal(l)
	}
	if l := collect(); !slices.Equal(l, []api.Link{none, none, foreign(7)}) {
		t.Fatal(l)
	}
	n := 0
	for range all {
		p.Down(a)
		n++
	}
	if n != 3 || len(collect()) != 0 {
		t.Fatal(n)
	}
	// The place is taken again, but not under this handle.
	made(t, p, 2, 0)
	if len(collect()) != 0 {
		t.Fatal("it tells another object's links")
	}
}

func TestLinksStopsWhenItIsAskedTo(t *testing.T) {
	p := created(t, 1, 1)
	a := made(t, p, 5, 0)
	for most := 1; most <= 5; most++ {
		n := 0
		p.Links(a)(func(int, api.Link) bool {
			n++
			return n < most
		})
		if n != most {
			t.Errorf("it told %d and was asked to stop behind %d", n, most)
		}
	}
}

// P11.3

func TestPut(t *testing.T) {
	p := created(t, 3, 3)
	l := wholes(t, p, 2, 2)
	a, b := l[0], l[1]
	put(t, p, a, 0, linkTo(b))
	put(t, p, a, 1, foreign(77))
	holds(t, p, a, linkTo(b), foreign(77))
	holds(t, p, b, none, none)
	counts(t, p, a, 1)
	counts(t, p, b, 2)
	told(t, end(p.Put(a, 1, linkTo(b))), nil, 77)
	counts(t, p, b, 3)
	told(t, end(p.Put(a, 1, none)), nil)
	counts(t, p, b, 2)
	told(t, end(p.Down(b)), nil)
	told(t, end(p.Put(a, 0, foreign(0))), []uint64{b})
	told(t, end(p.Put(a, 0, foreign(math.MaxUint64))), nil, 0)
	// Held anew and let go, a foreign one is told though it is the same.
	told(t, end(p.Put(a, 0, foreign(math.MaxUint64))), nil, math.MaxUint64)
	told(t, end(p.Put(a, 0, none)), nil, math.MaxUint64)
	told(t, end(p.Put(a, 0, none)), nil)
	has(t, p, a)
}

func TestPutHoldsTheWhole(t *testing.T) {
	p := created(t, 4, 9)
	l := wholes(t, p, 2, 1)
	a, b := l[0], l[1]
	c, d := made(t, p, 1, a), made(t, p, 1, b)
	put(t, p, c, 0, linkTo(d))
	holds(t, p, c, linkTo(d))
	counts(t, p, b, 2)
	counts(t, p, d, 2)
	counts(t, p, a, 1)
	put(t, p, a, 0, linkTo(c))
	counts(t, p, a, 2)
	told(t, end(p.Down(d)), nil)
	told(t, end(p.Put(c, 0, none)), []uint64{b, d})
}

func TestPutHoldsAheadOfLettingGo(t *testing.T) {
	p := created(t, 2, 2)
	l := wholes(t, p, 2, 2)
	a, b := l[0], l[1]
	put(t, p, a, 0, linkTo(b))
	told(t, end(p.Down(b)), nil)
	// b is held by this slot alone, and laid into it again.
	told(t, end(p.Put(a, 0, linkTo(b))), nil)
	counts(t, p, b, 1)
	put(t, p, a, 1, linkTo(b))
	// Its count is top: it can't be held, though it would be let go of right behind.
	putRefused(t, p, a, 0, linkTo(b), api.ErrCount)
	told(t, end(p.Put(a, 1, none)), nil)
	counts(t, p, b, 1)
}

func TestPutMayLetGoOfWhereItPuts(t *testing.T) {
	p := created(t, 3, 9)
	l := wholes(t, p, 2, 2)
	a, b := l[0], l[1]
	put(t, p, a, 0, linkTo(a))
	told(t, end(p.Down(a)), nil)
	put(t, p, a, 1, foreign(3))
	// a holds itself alone; what is laid into the slot is let go of when it goes.
	told(t, end(p.Put(a, 0, linkTo(b))), []uint64{a}, 3)
	counts(t, p, b, 1)
	c := made(t, p, 1, 0)
	put(t, p, b, 0, linkTo(b))
	put(t, p, b, 1, linkTo(c))
	told(t, end(p.Down(c)), nil)
	told(t, end(p.Down(b)), nil)
	told(t, end(p.Put(b, 0, foreign(4))), []uint64{b, c}, 4)
	has(t, p)
}

func TestPutRefuses(t *testing.T) {
	p := created(t, 5, 2)
	a := made(t, p, 2, 0)
	b := made(t, p, 1, a)
	full := made(t, p, 0, 0)
	ups(t, p, full, 1)
	inFull := made(t, p, 0, full)
	gone := made(t, p, 8, 0)
	p.Down(gone)
	wrongLinks := []api.Link{{H: 1}, {H: a}, {H: math.MaxUint64}, {Kind: 3}, {Kind: 3, H: a}, {Kind: -1}, {Kind: -1, H: a}, {Kind: math.MaxInt}, {Kind: math.MinInt}, {Kind: 1<<32 + 1, H: a}}
	staleLinks := []api.Link{linkTo(0), linkTo(1), linkTo(gone), linkTo(of(4, 2)), linkTo(math.MaxUint64)}
	fullLinks := []api.Link{linkTo(full), linkTo(inFull)}
	rightLinks := []api.Link{none, linkTo(a), linkTo(b), foreign(0), foreign(a), foreign(gone)}
	every := slices.Concat(rightLinks, wrongLinks, staleLinks, fullLinks)
	wrongSlots := []int{-1, 8, 9, math.MaxInt, math.MinInt, 1 << 32}
	for _, x := range every {
		// Whether there is such an object is asked first, then the slot.
		for _, slot := range append([]int{0}, wrongSlots...) {
			putRefused(t, p, gone, slot, x, api.ErrStale)
			putRefused(t, p, 0, slot, x, api.ErrStale)
		}
		for _, slot := range wrongSlots {
			putRefused(t, p, a, slot, x, api.ErrArg)
		}
		putRefused(t, p, a, 2, x, api.ErrArg)
		putRefused(t, p, b, 1, x, api.ErrArg)
		putRefused(t, p, full, 0, x, api.ErrArg)
	}
	for _, h := range []uint64{a, b} {
		for _, x := range wrongLinks {
			putRefused(t, p, h, 0, x, api.ErrArg)
		}
		for _, x := range staleLinks {
			putRefused(t, p, h, 0, x, api.ErrStale)
		}
		for _, x := range fullLinks {
			putRefused(t, p, h, 0, x, api.ErrCount)
		}
	}
	for _, x := range rightLinks {
		if e := end(p.Put(a, 1, x)).e; e != api.OK {
			t.Fatal(x, e)
		}
		holds(t, p, a, none, x)
		if e := end(p.Put(a, 1, none)).e; e != api.OK {
			t.Fatal(x, e)
		}
	}
}

func TestARefusedPutLeavesWhatWasThere(t *testing.T) {
	p := created(t, 2, 2)
	l := wholes(t, p, 2, 1)
	a, b := l[0], l[1]
	put(t, p, a, 0, linkTo(b))
	putRefused(t, p, a, 0, linkTo(b), api.ErrCount)
	putRefused(t, p, a, 0, linkTo(9), api.ErrStale)
	putRefused(t, p, a, 0, api.Link{Kind: 3}, api.ErrArg)
	holds(t, p, a, linkTo(b))
	put(t, p, a, 0, none)
	told(t, end(p.Put(a, 0, foreign(6))), nil)
	putRefused(t, p, a, 0, linkTo(9), api.ErrStale)
	told(t, end(p.Put(a, 0, none)), nil, 6)
}

// Who goes, in the order of the Words.

func TestTheDocumentsExample(t *testing.T) {
	p := created(t, 2, top)
	l := wholes(t, p, 2, 1)
	a, b := l[0], l[1]
	put(t, p, a, 0, linkTo(b))
	told(t, end(p.Down(b)), nil)
	told(t, end(p.Down(a)), []uint64{a, b})
}

// They go one behind the other as they began to wait: all that the first one held ahead of what the next ones held.
func TestTheOrderOfGoing(t *testing.T) {
	p := created(t, 9, 9)
	l := wholes(t, p, 7, 2)
	// 6 holds 4 and 2, 4 holds 0 and 5, 2 holds 3 and 1.
	for _, x := range [][3]int{{6, 4, 2}, {4, 0, 5}, {2, 3, 1}} {
		put(t, p, l[x[0]], 0, linkTo(l[x[1]]))
		put(t, p, l[x[0]], 1, linkTo(l[x[2]]))
		told(t, end(p.Down(l[x[1]])), nil)
		told(t, end(p.Down(l[x[2]])), nil)
	}
	told(t, end(p.Down(l[6])), []uint64{l[6], l[4], l[2], l[0], l[5], l[3], l[1]})
	has(t, p)
}

func TestInnersGoWithTheirWhole(t *testing.T) {
	p := created(t, 12, 9)
	b := made(t, p, 1, 0)
	a := made(t, p, 2, 0)
	first := made(t, p, 2, a)
	c := made(t, p, 1, 0)
	d := made(t, p, 0, 0)
	inC := made(t, p, 1, c)
	second := made(t, p, 2, a)
	put(t, p, second, 0, linkTo(b))
	put(t, p, second, 1, foreign(6))
	put(t, p, first, 1, linkTo(inC))
	put(t, p, first, 0, foreign(4))
	put(t, p, a, 1, foreign(3))
	put(t, p, a, 0, foreign(2))
	put(t, p, inC, 0, foreign(8))
	put(t, p, c, 0, linkTo(d))
	put(t, p, b, 0, foreign(9))
	for _, h := range []uint64{b, c, d} {
		told(t, end(p.Down(h)), nil)
	}
	told(t, end(p.Down(second)), []uint64{a, first, second, c, inC, b, d}, 2, 3, 4, 6, 8, 9)
	has(t, p)
}

// Of inners the one made first goes first, wherever its place is.
func TestInnersGoInTheOrderOfTheirMaking(t *testing.T) {
	p := created(t, 5, 9)
	l := wholes(t, p, 3, 0)
	a := made(t, p, 1, 0)
	for _, h := range l {
		p.Down(h)
	}
	x, y, z := made(t, p, 1, a), made(t, p, 1, a), made(t, p, 1, a)
	put(t, p, z, 0, foreign(3))
	put(t, p, y, 0, foreign(2))
	put(t, p, x, 0, foreign(1))
	if !slices.Equal([]uint64{x, y, z}, []uint64{of(2, 2), of(1, 2), of(0, 2)}) {
		t.Fatal(x, y, z)
	}
	told(t, end(p.Down(a)), []uint64{a, x, y, z}, 1, 2, 3)
}

func TestWhatOthersHoldStays(t *testing.T) {
	p := created(t, 4, 9)
	l := wholes(t, p, 3, 3)
	a, b, c := l[0], l[1], l[2]
	for _, x := range []struct {
		h    uint64
		slot int
		of   uint64
	}{{a, 0, c}, {a, 1, c}, {a, 2, c}, {b, 0, c}} {
		put(t, p, x.h, x.slot, linkTo(x.of))
	}
	told(t, end(p.Down(c)), nil)
	counts(t, p, c, 4)
	told(t, end(p.Down(a)), []uint64{a})
	counts(t, p, c, 1)
	told(t, end(p.Down(b)), []uint64{b, c})
}

func TestRingsHoldThemselves(t *testing.T) {
	p := created(t, 4, 9)
	l := wholes(t, p, 3, 1)
	for i, h := range l {
		put(t, p, h, 0, linkTo(l[(i+1)%3]))
	}
	for _, h := range l {
		told(t, end(p.Down(h)), nil)
	}
	has(t, p, l...)
	// The ring is opened by one that is let go of once more than it is held: its link is stale then.
	told(t, end(p.Down(l[1])), []uint64{l[1], l[2], l[0]})
}

func TestAWholeThatHoldsItselfByItsInners(t *testing.T) {
	p := created(t, 4, 9)
	a := made(t, p, 1, 0)
	b := made(t, p, 1, a)
	put(t, p, a, 0, linkTo(b))
	put(t, p, b, 0, linkTo(a))
	counts(t, p, a, 3)
	told(t, end(p.Down(a)), nil)
	shows(t, p, graph{[]uint32{2}, [][]int{{0, 0}}, []uint64{a}})
	told(t, end(p.Put(a, 0, none)), nil)
	told(t, end(p.Put(b, 0, none)), []uint64{a, b})
}

// Who lets go of more than he holds leaves links that find nothing; none of their counts wraps, and nobody goes twice.
func TestLettingGoOfMoreThanIsHeld(t *testing.T) {
	p := created(t, 6, 9)
	l := wholes(t, p, 4, 2)
	a, b, c, d := l[0], l[1], l[2], l[3]
	put(t, p, a, 0, linkTo(b))
	put(t, p, a, 1, linkTo(c))
	put(t, p, b, 0, linkTo(d))
	put(t, p, c, 0, linkTo(d))
	for range 2 {
		told(t, end(p.Down(d)), nil)
	}
	told(t, end(p.Down(b)), nil)
	told(t, end(p.Down(c)), nil)
	counts(t, p, d, 1)
	// b lets go of d, which waits; c lets go of it once more.
	told(t, end(p.Down(a)), []uint64{a, b, c, d})
	has(t, p)
	e, f := made(t, p, 1, 0), made(t, p, 0, 0)
	put(t, p, e, 0, linkTo(f))
	told(t, end(p.Down(f)), nil)
	told(t, end(p.Down(f)), []uint64{f})
	holds(t, p, e, linkTo(f))
	shows(t, p, graph{[]uint32{1}, [][]int{nil}, []uint64{e}})
	g := made(t, p, 0, 0)
	told(t, end(p.Put(e, 0, none)), nil)
	counts(t, p, g, 1)
	told(t, end(p.Down(e)), []uint64{e})
	has(t, p, g)
}

func TestALongRowGoes(t *testing.T) {
	p := created(t, 256, 9)
	l := wholes(t, p, 256, 8)
	for i := range 255 {
		for slot := range 8 {
			put(t, p, l[i], slot, linkTo(l[i+1]))
		}
		told(t, end(p.Down(l[i+1])), nil)
	}
	told(t, end(p.Down(l[0])), l)
	has(t, p)
}

// P11.4

func TestRemove(t *testing.T) {
	p := created(t, 9, 9)
	l := wholes(t, p, 5, 3)
	a, b, c, d, e := l[0], l[1], l[2], l[3], l[4]
	inB := made(t, p, 2, b)
	put(t, p, a, 0, linkTo(b))
	put(t, p, a, 1, linkTo(c))
	put(t, p, a, 2, foreign(2))
	put(t, p, b, 0, linkTo(a))
	put(t, p, inB, 0, linkTo(d))
	put(t, p, inB, 1, foreign(1))
	put(t, p, e, 0, linkTo(a))
	put(t, p, e, 1, linkTo(inB))
	put(t, p, e, 2, linkTo(c))
	ups(t, p, b, 3)
	told(t, end(p.Down(d)), nil)
	told(t, end(p.Down(c)), nil)
	told(t, end(p.Remove(nil)), nil)
	told(t, end(p.Remove([]uint64{})), nil)
	told(t, end(p.Remove([]uint64{b, a})), []uint64{b, inB, a, d}, 1, 2)
	has(t, p, c, e)
	counts(t, p, c, 1)
	// The links to what was removed stay as they are; nothing is let go of by them, and they are no edges.
	holds(t, p, e, linkTo(a), linkTo(inB), linkTo(c))
	shows(t, p, graph{[]uint32{1, 1}, [][]int{nil, {0}}, []uint64{c, e}})
	for _, h := range []uint64{a, b, inB, d} {
		stale(t, p, h)
	}
	again := wholes(t, p, 4, 0)
	told(t, end(p.Put(e, 0, none)), nil)
	told(t, end(p.Down(e)), []uint64{e, c})
	for _, h := range again {
		counts(t, p, h, 1)
	}
}

func TestRemoveGoesInTheOrderOfItsList(t *testing.T) {
	for _, order := range [][3]int{{0, 1, 2}, {0, 2, 1}, {1, 0, 2}, {1, 2, 0}, {2, 0, 1}, {2, 1, 0}} {
		p := created(t, 6, 9)
		l := wholes(t, p, 6, 2)
		var want []uint64
		for i := range 3 {
			// Each holds the next one of the three, and one of the others, whom nobody else holds.
			put(t, p, l[i], 0, linkTo(l[(i+1)%3]))
			put(t, p, l[i], 1, linkTo(l[3+i]))
			told(t, end(p.Down(l[3+i])), nil)
		}
		for _, h := range l[:3] {
			told(t, end(p.Down(h)), nil)
		}
		var list []uint64
		for _, i := range order {
			list = append(list, l[i])
		}
		want = append(want, list...)
		for _, i := range order {
			want = append(want, l[3+i])
		}
		told(t, end(p.Remove(list)), want)
		has(t, p)
	}
}

func TestRemoveWhatHoldsItself(t *testing.T) {
	p := created(t, 3, 9)
	a := made(t, p, 2, 0)
	b := made(t, p, 1, a)
	put(t, p, a, 0, linkTo(a))
	put(t, p, a, 1, linkTo(b))
	put(t, p, b, 0, linkTo(a))
	told(t, end(p.Remove([]uint64{a})), []uint64{a, b})
	has(t, p)
}

func TestRemoveRefuses(t *testing.T) {
	p := created(t, 8, 9)
	l := wholes(t, p, 3, 1)
	a, b, gone := l[0], l[1], l[2]
	inA := made(t, p, 1, a)
	put(t, p, a, 0, linkTo(b))
	put(t, p, inA, 0, foreign(1))
	p.Down(gone)
	for _, l := range [][]uint64{{gone}, {0}, {a, gone}, {gone, a}, {inA, gone}, {gone, inA}, {a, a, gone}, {gone, a, a}, {gone, gone}, {inA, a, a, b, 0}, {1}, {math.MaxUint64, b}} {
		removeRefused(t, p, l, api.ErrStale)
	}
	for _, l := range [][]uint64{{inA}, {a, inA}, {inA, a}, {a, a}, {a, b, a}, {b, a, a}, {inA, inA}, {a, b, b}, slices.Repeat([]uint64{a, b}, 1000)} {
		removeRefused(t, p, l, api.ErrArg)
	}
	told(t, end(p.Remove([]uint64{b, a})), []uint64{b, a, inA}, 1)
}

// R4: what is handed in stays as it is, the room behind its length too; what is answered is new.
func TestRemoveKeepsNothing(t *testing.T) {
	p := created(t, 8, 9)
	l := wholes(t, p, 4, 1)
	put(t, p, l[0], 0, linkTo(l[2]))
	put(t, p, l[1], 0, foreign(5))
	told(t, end(p.Down(l[2])), nil)
	row := []uint64{l[1], l[0], 71, 72, 73, 74}
	gone, far, e := p.Remove(row[:2])
	told(t, ends{gone, far, e}, []uint64{l[1], l[0], l[2]}, 5)
	if !slices.Equal(row, []uint64{l[1], l[0], 71, 72, 73, 74}) {
		t.Fatal(row)
	}
	for i := range gone {
		gone[i] = 0
	}
	_ = append(far[:0:cap(far)], 9)
	if !slices.Equal(row, []uint64{l[1], l[0], 71, 72, 73, 74}) || !slices.Equal(gone, []uint64{0, 0, 0}) {
		t.Fatal(row, gone)
	}
	has(t, p, l[3])
}

// P11.5

func TestAllGoesByRisingPlaces(t *testing.T) {
	p := created(t, 6, 9)
	l := wholes(t, p, 3, 0)
	in := made(t, p, 0, l[2])
	p.Down(l[0])
	has(t, p, l[1], l[2], in)
	a := made(t, p, 0, l[1])
	has(t, p, a, l[1], l[2], in)
	all := p.All()
	if p.Down(l[2]); !slices.Equal(slices.Collect(all), []uint64{a, l[1]}) {
		t.Fatal("it doesn't begin when it is gone over")
	}
	var told []uint64
	for h := range all {
		told = append(told, h)
		p.Down(l[1])
		p.Make(0, 0)
	}
	if !slices.Equal(told, []uint64{a, l[1]}) {
		t.Fatal(told)
	}
}

func TestAllStopsWhenItIsAskedTo(t *testing.T) {
	p := created(t, 5, 1)
	wholes(t, p, 5, 0)
	for most := 1; most <= 5; most++ {
		n := 0
		p.All()(func(uint64) bool {
			n++
			return n < most
		})
		if n != most {
			t.Errorf("it told %d and was asked to stop behind %d", n, most)
		}
	}
}

func TestGraph(t *testing.T) {
	p := created(t, 12, 99)
	l := wholes(t, p, 3, 1)
	b := l[2]
	late := made(t, p, 2, b)
	c := made(t, p, 3, 0)
	p.Down(l[0])
	p.Down(l[1])
	// Of b's inners the one made behind the other has the place ahead of it, and the whole made last the first of all.
	later := made(t, p, 1, b)
	d := made(t, p, 0, 0)
	if late != of(3, 1) || later != of(1, 2) || d != of(0, 2) {
		t.Fatalf("%#x %#x %#x", late, later, d)
	}
	put(t, p, b, 0, linkTo(c))
	put(t, p, late, 0, linkTo(d))
	put(t, p, late, 1, linkTo(late))
	put(t, p, later, 0, linkTo(c))
	put(t, p, c, 0, foreign(d))
	put(t, p, c, 2, linkTo(later))
	ups(t, p, d, 4)
	// The wholes are d, b, c.
	shows(t, p, graph{[]uint32{6, 3, 3}, [][]int{nil, {2, 0, 1, 2}, {1}}, []uint64{d, b, c}})
}

func TestGraphIsNewMemory(t *testing.T) {
	p := created(t, 3, 9)
	l := wholes(t, p, 2, 2)
	put(t, p, l[0], 0, linkTo(l[1]))
	put(t, p, l[1], 0, linkTo(l[0]))
	want := graph{[]uint32{2, 2}, [][]int{{1}, {0}}, slices.Clone(l)}
	g, of := p.Graph()
	_ = append(g.Edges[0], 7)
	shows(t, p, want)
	g.Counts[0], g.Edges[0][0], of[0] = 9, 9, 9
	g.Edges[1] = nil
	shows(t, p, want)
}

func TestNilHeap(t *testing.T) {
	var none *Heap
	for _, p := range []*Heap{none, new(Heap)} {
		for _, h := range []uint64{0, 1, of(0, 1), math.MaxUint64} {
			stale(t, p, h)
		}
		makeRefused(t, p, 0, 0, api.ErrFull)
		makeRefused(t, p, 8, 0, api.ErrFull)
		has(t, p)
		shows(t, p, graph{})
	}
	for _, x := range []struct {
		slots int
		outer uint64
	}{{-1, 0}, {9, 0}, {0, 1}, {math.MinInt, math.MaxUint64}} {
		makeRefused(t, none, x.slots, x.outer, api.ErrFull)
	}
	if x := end(none.Put(1, -1, api.Link{Kind: 9})); !x.same(ends{e: api.ErrStale}) {
		t.Fatal(x)
	}
	if x := end(none.Remove([]uint64{1, 1})); !x.same(ends{e: api.ErrStale}) {
		t.Fatal(x)
	}
}

func TestHeapsDoNotSeeOneAnother(t *testing.T) {
	p, q := created(t, 2, 9), created(t, 2, 9)
	a, b := made(t, p, 1, 0), made(t, q, 1, 0)
	ups(t, p, a, 3)
	p.Store(a, 5)
	counts(t, q, b, 1)
	told(t, end(q.Down(b)), []uint64{b})
	counts(t, p, a, 4)
}

// All of it in long rows of calls: against a plain model, which has all objects that ever were and searches each time.

type thing struct {
	h     uint64
	outer *thing // nil: it has none
	links []api.Link
	value int64
	count uint32
	is    int
}

const (
	there = iota
	waits
	gone
)

func (x *thing) whole() *thing {
	if x.outer != nil {
		return x.outer
	}
	return x
}

type model struct {
	most   int
	top    uint32
	things []*thing // in the order of their making
	free   []uint64 // the next handles of the places that are free again
	places int
	ends
}

func (m *model) find(h uint64) *thing {
	for _, x := range m.things {
		if x.h == h && x.is != gone {
			return x
		}
	}
	return nil
}

func (m *model) make(slots int, outer uint64) (uint64, api.Errno) {
	o := m.find(outer)
	switch {
	case slots < 0 || slots > 8:
		return 0, api.ErrArg
	case outer != 0 && o == nil:
		return 0, api.ErrStale
	case o != nil && o.outer != nil:
		return 0, api.ErrArg
	case len(m.free) == 0 && m.places == m.most:
		return 0, api.ErrFull
	}
	x := &thing{outer: o, links: make([]api.Link, slots), count: 1}
	if n := len(m.free); n > 0 {
		x.h, m.free = m.free[n-1], m.free[:n-1]
	} else {
		x.h = of(m.places, 1)
		m.places++
	}
	m.things = append(m.things, x)
	return x.h, api.OK
}

func (m *model) up(h uint64) (uint32, api.Errno) {
	x := m.find(h)
	if x == nil {
		return 0, api.ErrStale
	}
	if x.whole().count == m.top {
		return 0, api.ErrCount
	}
	x.whole().count++
	return x.whole().count, api.OK
}

func (m *model) letGo(x api.Link, row *[]*thing) {
	if x.Kind == 2 {
		m.foreign = append(m.foreign, x.H)
	}
	if x.Kind != 1 || m.find(x.H) == nil {
		return
	}
	w := m.find(x.H).whole()
	if w.is != there {
		return
	}
	if w.count--; w.count == 0 {
		w.is = waits
		*row = append(*row, w)
	}
}

func (m *model) run(row []*thing) ends {
	for i := 0; i < len(row); i++ {
		parts := []*thing{row[i]}
		for _, x := range m.things {
			if x.outer == row[i] {
				parts = append(parts, x)
			}
		}
		for _, x := range parts {
			x.is = gone
			m.gone = append(m.gone, x.h)
			m.free = append(m.free, x.h+1<<32)
		}
		for _, x := range parts {
			for _, l := range x.links {
				m.letGo(l, &row)
			}
		}
	}
	x := m.ends
	m.ends = ends{}
	return x
}

func (m *model) down(h uint64) ends {
	if m.find(h) == nil {
		return ends{e: api.ErrStale}
	}
	var row []*thing
	m.letGo(linkTo(h), &row)
	return m.run(row)
}

func (m *model) put(h uint64, slot int, l api.Link) ends {
	x := m.find(h)
	if x == nil {
		return ends{e: api.ErrStale}
	}
	if slot < 0 || slot >= len(x.links) || l.Kind < 0 || l.Kind > 2 || l.Kind == 0 && l.H != 0 {
		return ends{e: api.ErrArg}
	}
	if l.Kind == 1 {
		if _, e := m.up(l.H); e != api.OK {
			return ends{e: e}
		}
	}
	var row []*thing
	old := x.links[slot]
	x.links[slot] = l
	m.letGo(old, &row)
	return m.run(row)
}

func (m *model) remove(l []uint64) ends {
	var row []*thing
	e := api.OK
	for i, h := range l {
		x := m.find(h)
		if x == nil {
			return ends{e: api.ErrStale}
		}
		if x.outer != nil || slices.Contains(l[:i], h) {
			e = api.ErrArg
		}
		row = append(row, x)
	}
	if e != api.OK {
		return ends{e: e}
	}
	for _, x := range row {
		x.is = waits
	}
	return m.run(row)
}

func (m *model) state() state {
	var l []*thing
	for _, x := range m.things {
		if x.is == there {
			l = append(l, x)
		}
	}
	slices.SortFunc(l, func(a, b *thing) int { return int(uint32(a.h)) - int(uint32(b.h)) })
	var s state
	for _, x := range l {
		s.all = append(s.all, x.h)
		s.each = append(s.each, seen{x.value, x.whole().h, x.whole().count, x.links})
		if x.outer == nil {
			s.graph.wholes = append(s.graph.wholes, x.h)
			s.graph.counts = append(s.graph.counts, x.count)
		}
	}
	for _, h := range s.graph.wholes {
		s.graph.edges = append(s.graph.edges, m.edges(h, s.graph.wholes))
	}
	return s
}

func (m *model) edges(h uint64, wholes []uint64) []int {
	w := m.find(h)
	all := w.links
	for _, x := range m.things {
		if x.outer == w {
			all = slices.Concat(all, x.links)
		}
	}
	var l []int
	for _, x := range all {
		if to := m.find(x.H); x.Kind == 1 && to != nil {
			l = append(l, slices.Index(wholes, to.whole().h))
		}
	}
	return l
}

type dice uint32

func (d *dice) below(n int) int {
	*d = *d*1664525 + 1013904223
	return int(*d>>8) % n
}

// handle is most often one of an object that is there.
func (d *dice) handle(m *model) uint64 {
	if len(m.things) == 0 || d.below(40) == 0 {
		return []uint64{0, 1, 1 << 32, of(0, 1), of(m.most, 1), math.MaxUint64}[d.below(6)]
	}
	for range 3 {
		if x := m.things[d.below(len(m.things))]; x.is == there {
			return x.h
		}
	}
	return m.things[d.below(len(m.things))].h
}

func (d *dice) link(m *model) api.Link {
	switch d.below(12) {
	case 0, 1:
		return none
	case 2, 3:
		return foreign(uint64(d.below(5)))
	case 4:
		return api.Link{Kind: d.below(6) - 1, H: d.handle(m)}
	}
	return linkTo(d.handle(m))
}

func (d *dice) slot() int {
	if d.below(20) == 0 {
		return d.below(12) - 2
	}
	return d.below(3)
}

func (d *dice) handles(m *model) []uint64 {
	var l []uint64
	for range d.below(4) {
		l = append(l, d.handle(m))
	}
	return l
}

// turn does one thing to both, and asks whether they answer alike.
func turn(t *testing.T, p *Heap, m *model, d *dice) {
	t.Helper()
	var x, y ends
	switch d.below(16) {
	case 0, 1, 2, 3:
		slots, outer := d.slot()+d.below(3), uint64(0)
		if d.below(2) == 0 {
			outer = d.handle(m)
		}
		h, e := p.Make(slots, outer)
		want, wantE := m.make(slots, outer)
		x, y = ends{[]uint64{h}, nil, e}, ends{[]uint64{want}, nil, wantE}
	case 4:
		h := d.handle(m)
		n, e := p.Up(h)
		want, wantE := m.up(h)
		x, y = ends{[]uint64{uint64(n)}, nil, e}, ends{[]uint64{uint64(want)}, nil, wantE}
	case 5:
		h, n := d.handle(m), int64(d.below(1000))
		x.e, y.e = p.Store(h, n), api.ErrStale
		if o := m.find(h); o != nil {
			o.value, y.e = n, api.OK
		}
	case 6, 7, 8:
		h := d.handle(m)
		x, y = end(p.Down(h)), m.down(h)
	case 9:
		l := d.handles(m)
		x, y = end(p.Remove(l)), m.remove(l)
	default:
		h, slot, l := d.handle(m), d.slot(), d.link(m)
		x, y = end(p.Put(h, slot, l)), m.put(h, slot, l)
	}
	if !x.same(y) {
		t.Fatalf("answered %#x, not %#x", x, y)
	}
	if a, b := stateOf(p), m.state(); !a.same(b) {
		t.Fatalf("it is %v, not %v", a, b)
	}
}

func TestAnyCalls(t *testing.T) {
	for seed := range dice(6) {
		for _, most := range []int{1, 2, 4, 12, 40} {
			for _, top := range []uint32{1, 2, 4, top} {
				p, m, d := created(t, most, top), &model{most: most, top: top}, seed
				for range 600 {
					turn(t, p, m, &d)
				}
				for _, x := range m.things {
					if x.is == gone {
						stale(t, p, x.h)
						break
					}
				}
			}
		}
	}
}

// client holds by itself what it counts, and lets go of no more.
type client map[uint64]uint32

func (c client) any(d *dice) (uint64, bool) {
	l := slices.Sorted(mapKeys(c))
	if len(l) == 0 {
		return 0, false
	}
	return l[d.below(len(l))], true
}

func mapKeys(c client) iter.Seq[uint64] {
	return func(yield func(uint64) bool) {
		for h, n := range c {
			if n > 0 && !yield(h) {
				return
			}
		}
	}
}

// agrees: each count is how many hold it, and all that is held is there.
func (c client) agrees(t *testing.T, p *Heap) {
	t.Helper()
	held := map[uint64]uint32{}
	hold := func(h uint64, n uint32) {
		w, e := p.Whole(h)
		if e != api.OK {
			t.Fatalf("%#x is held, and gone", h)
		}
		held[w] += n
	}
	for h := range mapKeys(c) {
		hold(h, c[h])
	}
	for h := range p.All() {
		for _, x := range p.Links(h) {
			if x.Kind == 1 {
				hold(x.H, 1)
			}
		}
	}
	for h := range p.All() {
		if w, _ := p.Whole(h); p.Count(h) != held[w] || held[w] == 0 {
			t.Fatalf("Count(%#x) = %d, and %d hold it", h, p.Count(h), held[w])
		}
	}
}

func TestEachCountIsHowManyHoldIt(t *testing.T) {
	for seed := range dice(20) {
		p, c, d := created(t, 30, 6), client{}, seed
		for range 800 {
			h, ok := c.any(&d)
			k, _ := c.any(&d)
			switch n := d.below(10); {
			case n < 2 || !ok:
				if h, e := p.Make(3, 0); e == api.OK {
					c[h]++
				}
			case n < 3:
				w, _ := p.Whole(h)
				if in, e := p.Make(2, w); e == api.OK {
					if _, e := p.Up(in); e == api.OK {
						c[in]++
					}
				}
			case n < 4:
				if _, e := p.Up(h); e == api.OK {
					c[h]++
				}
			case n < 7:
				p.Down(h)
				c[h]--
			default:
				p.Put(h, d.below(3), []api.Link{none, foreign(3), linkTo(k), linkTo(k)}[d.below(4)])
			}
			c.agrees(t, p)
		}
	}
}

// R6: the same calls come to the same.
func TestTheSameCallsComeToTheSame(t *testing.T) {
	one, two := created(t, 20, 5), created(t, 20, 5)
	m, n := &model{most: 20, top: 5}, &model{most: 20, top: 5}
	d, e := dice(99), dice(99)
	for range 500 {
		turn(t, one, m, &d)
		turn(t, two, n, &e)
		if !stateOf(one).same(stateOf(two)) {
			t.Fatal("they differ")
		}
	}
}
