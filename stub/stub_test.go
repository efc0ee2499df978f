package stub

import (
	"fmt"
	"iter"
	"math"
	"slices"
	"testing"

	"tenon/api"
	"tenon/guid"
)

const (
	top    = math.MaxUint32
	topNum = math.MaxUint64
	oxid   = 77
)

// numbers are targets and holders that are alike in some of their bits.
var numbers = []uint64{0, 1, 2, 255, 1<<31 - 1, 1 << 31, 1<<32 - 1, 1 << 32, 1<<32 + 1, 1 << 63, 1<<63 + 1, topNum - 1, topNum}

// iids are alike in all of their bytes but one.
func iids() []api.Guid {
	l := []api.Guid{{}}
	for i := range 16 {
		var g api.Guid
		g[i] = 1
		l = append(l, g)
	}
	return l
}

type pair struct {
	ipid   api.Guid
	target uint64
}

// at is the ipid of a place and a generation, as the chapters 1 and 2 say it.
func at(place int, generation uint32) api.Guid {
	return guid.Of(uint64(generation)*(1<<32) + uint64(place) + 1)
}

func created(t *testing.T, most int) *Stubs {
	t.Helper()
	s, e := New(oxid, most)
	if e != api.OK || s == nil {
		t.Fatalf("New(%d, %d) = %v, %v", oxid, most, s, e)
	}
	return s
}

// export asks for each field of the Objref that is answered.
func export(t *testing.T, s *Stubs, target uint64, iid api.Guid, flags, refs uint32, holder uint64, want api.Guid) api.Guid {
	t.Helper()
	x, e := s.Export(target, iid, flags, refs, holder)
	if e != api.OK || x != (api.Objref{Flags: flags, Refs: refs, Oxid: oxid, Oid: target, Ipid: want, Iid: iid}) {
		t.Fatalf("Export(%d, %v, %d, %d, %d) = %v, %v, not of %v", target, iid, flags, refs, holder, x, e, want)
	}
	return want
}

func counted(t *testing.T, s *Stubs, target uint64, refs uint32, holder uint64, want api.Guid) api.Guid {
	t.Helper()
	return export(t, s, target, guid.Of(1), 0, refs, holder, want)
}

func named(t *testing.T, s *Stubs, target uint64, flags uint32, want api.Guid) api.Guid {
	t.Helper()
	return export(t, s, target, guid.Of(1), flags, 0, 0, want)
}

// refused: an Export that answers an error leaves all as it is.
func refused(t *testing.T, s *Stubs, target uint64, iid api.Guid, flags, refs uint32, holder uint64, want api.Errno) {
	t.Helper()
	before := pairs(s.All())
	if x, e := s.Export(target, iid, flags, refs, holder); x != (api.Objref{}) || e != want {
		t.Fatalf("Export(%d, %v, %d, %d, %d) = %v, %v, not %v", target, iid, flags, refs, holder, x, e, want)
	}
	told(t, s, before...)
}

func answers(t *testing.T, name string, e, want api.Errno) {
	t.Helper()
	if e != want {
		t.Fatalf("%s: %v, not %v", name, e, want)
	}
}

func add(t *testing.T, s *Stubs, ipid api.Guid, holder uint64, n uint32, want api.Errno) {
	t.Helper()
	answers(t, fmt.Sprint("Add of ", n), s.Add(ipid, holder, n), want)
}

func release(t *testing.T, s *Stubs, ipid api.Guid, holder uint64, n uint32, want api.Errno) {
	t.Helper()
	answers(t, fmt.Sprint("Release of ", n), s.Release(ipid, holder, n), want)
}

func move(t *testing.T, s *Stubs, ipid api.Guid, from, to uint64, n uint32, want api.Errno) {
	t.Helper()
	answers(t, fmt.Sprint("Move of ", n), s.Move(ipid, from, to, n), want)
}

func untable(t *testing.T, s *Stubs, ipid api.Guid, flags uint32, want api.Errno) {
	t.Helper()
	answers(t, fmt.Sprint("Untable of ", flags), s.Untable(ipid, flags), want)
}

func has(t *testing.T, s *Stubs, ipid api.Guid, holder uint64, want uint32) {
	t.Helper()
	if n := s.Count(ipid, holder); n != want {
		t.Fatalf("Count(%v, %d) = %d, not %d", ipid, holder, n, want)
	}
}

func found(t *testing.T, s *Stubs, ipid api.Guid, target uint64, iid api.Guid) {
	t.Helper()
	if a, b, e := s.Find(ipid); a != target || b != iid || e != api.OK {
		t.Fatalf("Find(%v) = %d, %v, %v, not %d, %v", ipid, a, b, e, target, iid)
	}
}

// gone asks all that tells that there is no stub of an ipid; none of that changes anything.
func gone(t *testing.T, s *Stubs, ipid api.Guid) {
	t.Helper()
	before := pairs(s.All())
	if target, iid, e := s.Find(ipid); target != 0 || iid != (api.Guid{}) || e != api.ErrGone {
		t.Fatalf("Find(%v) = %d, %v, %v, not ErrGone", ipid, target, iid, e)
	}
	for _, n := range []uint32{0, 1, top} {
		add(t, s, ipid, 1, n, api.ErrGone)
		release(t, s, ipid, 1, n, api.ErrGone)
		move(t, s, ipid, 1, 1, n, api.ErrGone)
		move(t, s, ipid, 1, 2, n, api.ErrGone)
		untable(t, s, ipid, n, api.ErrGone)
	}
	untable(t, s, ipid, 2, api.ErrGone)
	has(t, s, ipid, 1, 0)
	told(t, s, before...)
}

func held(t *testing.T, s *Stubs, target uint64, want bool) {
	t.Helper()
	if s.Held(target) != want {
		t.Fatalf("Held(%d) = %v", target, !want)
	}
}

func forget(t *testing.T, s *Stubs, holder uint64, want ...uint64) {
	t.Helper()
	if l := s.Forget(holder); !slices.Equal(l, want) {
		t.Fatalf("Forget(%d) = %v, not %v", holder, l, want)
	}
	for ipid := range s.All() {
		has(t, s, ipid, holder, 0)
	}
	for _, target := range want {
		held(t, s, target, false)
	}
}

func disconnect(t *testing.T, s *Stubs, target uint64, want int) {
	t.Helper()
	if n := s.Disconnect(target); n != want {
		t.Fatalf("Disconnect(%d) = %d, not %d", target, n, want)
	}
	held(t, s, target, false)
	for _, x := range s.All() {
		if x == target {
			t.Fatalf("%d has a stub yet", target)
		}
	}
}

func pairs(all iter.Seq2[api.Guid, uint64]) []pair {
	var l []pair
	for ipid, target := range all {
		l = append(l, pair{ipid, target})
	}
	return l
}

func told(t *testing.T, s *Stubs, want ...pair) {
	t.Helper()
	if l := pairs(s.All()); !slices.Equal(l, want) {
		t.Fatalf("All() tells %v, not %v", l, want)
	}
}

func TestTheExample(t *testing.T) {
	s := created(t, 4)
	x := counted(t, s, 9, 5, 1, at(0, 1))
	release(t, s, x, 1, 5, api.OK)
	gone(t, s, x)
}

// P17.1

func TestNew(t *testing.T) {
	for _, most := range []int{1, 2, 255, 65535, 65536} {
		for _, n := range numbers {
			s, e := New(n, most)
			if e != api.OK || s == nil {
				t.Fatal(n, most, e)
			}
			told(t, s)
			gone(t, s, at(0, 1))
			held(t, s, 0, false)
			x, e := s.Export(5, guid.Of(6), 0, 7, 8)
			if e != api.OK || x != (api.Objref{Refs: 7, Oxid: n, Oid: 5, Ipid: at(0, 1), Iid: guid.Of(6)}) {
				t.Fatal(x, e)
			}
		}
	}
}

func TestNewRefuses(t *testing.T) {
	for _, most := range []int{0, -1, 65537, -65536, 1 << 31, 1 << 32, 1<<32 + 1, 1 << 62, math.MaxInt, math.MinInt} {
		for _, n := range []uint64{0, 1, topNum} {
			if s, e := New(n, most); s != nil || e != api.ErrArg {
				t.Fatalf("New(%d, %d) = %v, %v", n, most, s, e)
			}
		}
	}
}

func TestExportCounts(t *testing.T) {
	s := created(t, 4)
	x := counted(t, s, 9, 5, 1, at(0, 1))
	found(t, s, x, 9, guid.Of(1))
	counted(t, s, 9, 2, 1, x)
	counted(t, s, 9, 1, 2, x)
	has(t, s, x, 1, 7)
	has(t, s, x, 2, 1)
	has(t, s, x, 3, 0)
	told(t, s, pair{x, 9})
	release(t, s, x, 1, 7, api.OK)
	release(t, s, x, 2, 1, api.OK)
	gone(t, s, x)
}

func TestExportToTables(t *testing.T) {
	for _, flags := range []uint32{1, 2} {
		s := created(t, 4)
		x := named(t, s, 9, flags, at(0, 1))
		// The holder isn't asked for.
		export(t, s, 9, guid.Of(1), flags, 0, 6, x)
		has(t, s, x, 0, 0)
		has(t, s, x, 6, 0)
		release(t, s, x, 6, 1, api.ErrCount)
		held(t, s, 9, flags == 1)
		untable(t, s, x, 3-flags, api.ErrCount)
		untable(t, s, x, flags, api.OK)
		found(t, s, x, 9, guid.Of(1))
		held(t, s, 9, flags == 1)
		untable(t, s, x, flags, api.OK)
		gone(t, s, x)
	}
}

func TestExportRefusesWhatIsNoObjref(t *testing.T) {
	wrong := [][2]uint32{{0, 0}, {1, 1}, {1, top}, {2, 1}, {2, top}, {3, 0}, {3, 1}, {4, 0}, {256, 0}, {256, 1}, {257, 0}, {1 << 31, 0}, {1 << 31, 1}, {top, 0}, {top, 1}, {top, top}}
	s := created(t, 1)
	for _, x := range wrong {
		refused(t, s, 9, guid.Of(1), x[0], x[1], 1, api.ErrArg)
	}
	counted(t, s, 9, 1, 1, at(0, 1))
	for _, x := range wrong {
		refused(t, s, 9, guid.Of(1), x[0], x[1], 1, api.ErrArg)
		// There is no room any more: ErrArg is ahead of ErrFull.
		refused(t, s, 8, guid.Of(1), x[0], x[1], 1, api.ErrArg)
	}
	has(t, s, at(0, 1), 1, 1)
	has(t, s, at(0, 1), 0, 0)
	untable(t, s, at(0, 1), 1, api.ErrCount)
	untable(t, s, at(0, 1), 2, api.ErrCount)
}

// TestExportRefusesAheadOfACount: ErrArg is ahead of ErrCount.
func TestExportRefusesAheadOfACount(t *testing.T) {
	s := created(t, 1)
	counted(t, s, 9, top, 1, at(0, 1))
	refused(t, s, 9, guid.Of(1), 3, top, 1, api.ErrArg)
	refused(t, s, 9, guid.Of(1), 0, 0, 1, api.ErrArg)
	refused(t, s, 9, guid.Of(1), 0, 1, 1, api.ErrCount)
}

func TestAStubIsOfATargetAndAnInterface(t *testing.T) {
	s := created(t, 1000)
	want := map[pair]api.Guid{}
	var all []pair
	for _, target := range numbers {
		for _, iid := range iids() {
			x := at(len(want), 1)
			want[pair{iid, target}] = export(t, s, target, iid, 0, 3, 1, x)
			all = append(all, pair{x, target})
		}
	}
	for key, x := range want {
		for flags, refs := range []uint32{4, 0, 0} {
			export(t, s, key.target, key.ipid, uint32(flags), refs, 2, x)
		}
		found(t, s, x, key.target, key.ipid)
		has(t, s, x, 1, 3)
		has(t, s, x, 2, 4)
	}
	told(t, s, all...)
}

func TestAnyNumberIsAHolder(t *testing.T) {
	s := created(t, 1)
	for i, holder := range numbers {
		counted(t, s, 9, uint32(i+1), holder, at(0, 1))
	}
	for i, holder := range numbers {
		has(t, s, at(0, 1), holder, uint32(i+1))
	}
	for i, holder := range numbers {
		release(t, s, at(0, 1), holder, uint32(i+2), api.ErrCount)
		found(t, s, at(0, 1), 9, guid.Of(1))
		release(t, s, at(0, 1), holder, uint32(i+1), api.OK)
	}
	gone(t, s, at(0, 1))
}

func TestFull(t *testing.T) {
	s := created(t, 2)
	x := counted(t, s, 9, 1, 1, at(0, 1))
	y := export(t, s, 9, guid.Of(2), 2, 0, 0, at(1, 1))
	for _, l := range [][2]uint32{{0, 1}, {0, top}, {1, 0}, {2, 0}} {
		refused(t, s, 8, guid.Of(1), l[0], l[1], 1, api.ErrFull)
		refused(t, s, 9, guid.Of(3), l[0], l[1], 1, api.ErrFull)
		held(t, s, 8, false)
		disconnect(t, s, 8, 0)
	}
	// Those that are there need no room.
	counted(t, s, 9, 1, 2, x)
	export(t, s, 9, guid.Of(2), 0, 1, 1, y)
	release(t, s, x, 1, 1, api.OK)
	release(t, s, x, 2, 1, api.OK)
	export(t, s, 8, guid.Of(1), 0, 1, 1, at(0, 2))
	refused(t, s, 9, guid.Of(1), 0, 1, 1, api.ErrFull)
}

func TestTheGreatestStubs(t *testing.T) {
	const most = 65536
	for _, ofOneTarget := range []bool{false, true} {
		s := created(t, most)
		of := func(i int) (uint64, api.Guid) {
			if ofOneTarget {
				return 9, guid.Of(uint64(i))
			}
			return uint64(i), guid.Of(9)
		}
		for i := range most {
			target, iid := of(i)
			export(t, s, target, iid, 0, 1, 1, at(i, 1))
			held(t, s, target, true)
		}
		target, iid := of(most)
		refused(t, s, target, iid, 0, 1, 1, api.ErrFull)
		for i := range most {
			target, iid := of(i)
			export(t, s, target, iid, 0, 1, uint64(2+i%2), at(i, 1))
		}
		if l := s.Forget(1); len(l) != 0 {
			t.Fatal(len(l))
		}
		if l := s.Forget(2); ofOneTarget && len(l) != 0 || !ofOneTarget && len(l) != most/2 {
			t.Fatal(len(l))
		}
		if n := len(pairs(s.All())); n != most/2 {
			t.Fatal(n)
		}
		if n := s.Disconnect(9); ofOneTarget && n != most/2 || !ofOneTarget && n != 1 {
			t.Fatal(n)
		}
	}
}

func TestAStubOfManyHolders(t *testing.T) {
	const many = 100000
	s := created(t, 1)
	for holder := range uint64(many) {
		counted(t, s, 9, 2, holder, at(0, 1))
	}
	for holder := range uint64(many) {
		found(t, s, at(0, 1), 9, guid.Of(1))
		release(t, s, at(0, 1), holder, 2, api.OK)
	}
	gone(t, s, at(0, 1))
}

func TestPlacesAreTakenAsAnArenaTakesThem(t *testing.T) {
	s := created(t, 5)
	for i := range uint64(3) {
		counted(t, s, i, 1, 1, at(int(i), 1))
	}
	release(t, s, at(0, 1), 1, 1, api.OK)
	release(t, s, at(2, 1), 1, 1, api.OK)
	counted(t, s, 5, 1, 1, at(2, 2))
	counted(t, s, 6, 1, 1, at(0, 2))
	counted(t, s, 7, 1, 1, at(3, 1))
	release(t, s, at(0, 2), 1, 1, api.OK)
	counted(t, s, 6, 1, 1, at(0, 3))
	told(t, s, pair{at(0, 3), 6}, pair{at(1, 1), 1}, pair{at(2, 2), 5}, pair{at(3, 1), 7})
	gone(t, s, at(0, 1))
	gone(t, s, at(0, 2))
	gone(t, s, at(2, 1))
}

func TestTheGreatestCount(t *testing.T) {
	s := created(t, 2)
	x := counted(t, s, 9, top-1, 1, at(0, 1))
	refused(t, s, 9, guid.Of(1), 0, 2, 1, api.ErrCount)
	refused(t, s, 9, guid.Of(1), 0, top, 1, api.ErrCount)
	has(t, s, x, 1, top-1)
	counted(t, s, 9, 1, 1, x)
	has(t, s, x, 1, top)
	for _, n := range []uint32{1, 2, 1 << 31, top} {
		refused(t, s, 9, guid.Of(1), 0, n, 1, api.ErrCount)
		add(t, s, x, 1, n, api.ErrCount)
	}
	add(t, s, x, 1, 0, api.OK)
	has(t, s, x, 1, top)
	// Each holder has a count of its own, and each stub.
	for holder := range uint64(10) {
		if holder != 1 {
			counted(t, s, 9, top, holder, x)
		}
	}
	y := counted(t, s, 8, top, 1, at(1, 1))
	for holder := range uint64(10) {
		has(t, s, x, holder, top)
		release(t, s, x, holder, top, api.OK)
	}
	gone(t, s, x)
	has(t, s, y, 1, top)
}

// tablesOf is from within: so many calls as the greatest count asks for are too many.
func tablesOf(t *testing.T, s *Stubs, ipid api.Guid, flags, n uint32) {
	t.Helper()
	_, x := s.find(ipid)
	if _, e := x.tables.Up(uint64(flags), n); e != api.OK {
		t.Fatal(e)
	}
}

func TestTheGreatestTables(t *testing.T) {
	for _, flags := range []uint32{1, 2} {
		s := created(t, 1)
		x := named(t, s, 9, flags, at(0, 1))
		tablesOf(t, s, x, flags, top-2)
		named(t, s, 9, flags, x)
		refused(t, s, 9, guid.Of(1), flags, 0, 0, api.ErrCount)
		// The others have their own.
		named(t, s, 9, 3-flags, x)
		counted(t, s, 9, top, 1, x)
		untable(t, s, x, flags, api.OK)
		named(t, s, 9, flags, x)
		refused(t, s, 9, guid.Of(1), flags, 0, 0, api.ErrCount)
		held(t, s, 9, true)
	}
}

// P17.2

func TestAddAndRelease(t *testing.T) {
	s := created(t, 2)
	x := counted(t, s, 9, 1, 1, at(0, 1))
	y := counted(t, s, 8, 1, 1, at(1, 1))
	add(t, s, x, 1, 4, api.OK)
	add(t, s, x, 2, 7, api.OK)
	has(t, s, x, 1, 5)
	has(t, s, x, 2, 7)
	has(t, s, y, 1, 1)
	has(t, s, y, 2, 0)
	release(t, s, x, 1, 6, api.ErrCount)
	release(t, s, x, 3, 1, api.ErrCount)
	release(t, s, x, 1, top, api.ErrCount)
	has(t, s, x, 1, 5)
	release(t, s, x, 1, 5, api.OK)
	has(t, s, x, 1, 0)
	found(t, s, x, 9, guid.Of(1))
	release(t, s, x, 1, 1, api.ErrCount)
	release(t, s, x, 2, 6, api.OK)
	found(t, s, x, 9, guid.Of(1))
	release(t, s, x, 2, 1, api.OK)
	gone(t, s, x)
	has(t, s, y, 1, 1)
}

func TestAddUpToTheGreatestCount(t *testing.T) {
	s := created(t, 1)
	x := counted(t, s, 9, 5, 1, at(0, 1))
	add(t, s, x, 1, top-4, api.ErrCount)
	has(t, s, x, 1, 5)
	add(t, s, x, 1, top-5, api.OK)
	has(t, s, x, 1, top)
	add(t, s, x, 2, top, api.OK)
	add(t, s, x, 2, 1, api.ErrCount)
	release(t, s, x, 1, top, api.OK)
	release(t, s, x, 2, top, api.OK)
	gone(t, s, x)
}

func TestNothingMoreAndNothingLess(t *testing.T) {
	s := created(t, 2)
	x := counted(t, s, 9, 1, 1, at(0, 1))
	y := named(t, s, 8, 2, at(1, 1))
	for _, ipid := range []api.Guid{x, y} {
		for _, holder := range numbers {
			add(t, s, ipid, holder, 0, api.OK)
			release(t, s, ipid, holder, 0, api.OK)
			move(t, s, ipid, holder, 1, 0, api.OK)
			move(t, s, ipid, 1, holder, 0, api.OK)
		}
	}
	has(t, s, x, 1, 1)
	has(t, s, y, 1, 0)
	held(t, s, 8, false)
	told(t, s, pair{x, 9}, pair{y, 8})
}

func TestMove(t *testing.T) {
	s := created(t, 2)
	x := counted(t, s, 9, 5, 1, at(0, 1))
	y := counted(t, s, 8, 5, 1, at(1, 1))
	move(t, s, x, 1, 2, 3, api.OK)
	has(t, s, x, 1, 2)
	has(t, s, x, 2, 3)
	move(t, s, x, 1, 2, 3, api.ErrCount)
	move(t, s, x, 3, 2, 1, api.ErrCount)
	has(t, s, x, 1, 2)
	has(t, s, x, 2, 3)
	has(t, s, x, 3, 0)
	move(t, s, x, 1, 2, 2, api.OK)
	move(t, s, x, 2, 7, 5, api.OK)
	has(t, s, x, 1, 0)
	has(t, s, x, 2, 0)
	has(t, s, x, 7, 5)
	has(t, s, y, 1, 5)
	held(t, s, 9, true)
	release(t, s, x, 7, 5, api.OK)
	gone(t, s, x)
}

// TestMoveAllOfIt: between its two halves there are no counts, but it is one call.
func TestMoveAllOfIt(t *testing.T) {
	s := created(t, 1)
	x := counted(t, s, 9, top, 1, at(0, 1))
	move(t, s, x, 1, 1, top, api.OK)
	has(t, s, x, 1, top)
	move(t, s, x, 1, 2, top, api.OK)
	found(t, s, x, 9, guid.Of(1))
	has(t, s, x, 1, 0)
	has(t, s, x, 2, top)
	release(t, s, x, 2, top, api.OK)
	gone(t, s, x)
}

func TestMoveToTheSame(t *testing.T) {
	s := created(t, 1)
	x := counted(t, s, 9, top-1, 1, at(0, 1))
	for _, n := range []uint32{0, 1, 2, 1 << 31, top - 1} {
		move(t, s, x, 1, 1, n, api.OK)
		has(t, s, x, 1, top-1)
	}
	move(t, s, x, 1, 1, top, api.ErrCount)
	move(t, s, x, 2, 2, 1, api.ErrCount)
	has(t, s, x, 1, top-1)
	has(t, s, x, 2, 0)
}

func TestMoveThatIsTooMuchMovesNothing(t *testing.T) {
	s := created(t, 1)
	x := counted(t, s, 9, 5, 1, at(0, 1))
	counted(t, s, 9, top-3, 2, x)
	for _, n := range []uint32{4, 5} {
		move(t, s, x, 1, 2, n, api.ErrCount)
		has(t, s, x, 1, 5)
		has(t, s, x, 2, top-3)
	}
	move(t, s, x, 1, 2, 3, api.OK)
	has(t, s, x, 1, 2)
	has(t, s, x, 2, top)
	move(t, s, x, 1, 2, 1, api.ErrCount)
	release(t, s, x, 1, 2, api.OK)
	release(t, s, x, 2, top, api.OK)
	gone(t, s, x)
}

func TestUntable(t *testing.T) {
	s := created(t, 1)
	x := named(t, s, 9, 1, at(0, 1))
	named(t, s, 9, 1, x)
	named(t, s, 9, 2, x)
	counted(t, s, 9, 1, 4, x)
	for _, flags := range []uint32{0, 3, 4, 255, 256, 257, 258, 1 << 31, 1<<31 + 1, top} {
		untable(t, s, x, flags, api.ErrArg)
	}
	untable(t, s, x, 1, api.OK)
	untable(t, s, x, 1, api.OK)
	untable(t, s, x, 1, api.ErrCount)
	untable(t, s, x, 2, api.OK)
	untable(t, s, x, 2, api.ErrCount)
	has(t, s, x, 4, 1)
	found(t, s, x, 9, guid.Of(1))
	release(t, s, x, 4, 1, api.OK)
	gone(t, s, x)
}

// TestAStubIsNoMoreWithoutAll: whatever is the last one that names it, in each order.
func TestAStubIsNoMoreWithoutAll(t *testing.T) {
	orders := [][3]int{{0, 1, 2}, {0, 2, 1}, {1, 0, 2}, {1, 2, 0}, {2, 0, 1}, {2, 1, 0}}
	for _, order := range orders {
		s := created(t, 1)
		x := counted(t, s, 9, 2, 1, at(0, 1))
		named(t, s, 9, 1, x)
		named(t, s, 9, 2, x)
		has := [3]bool{true, true, true}
		for _, what := range order {
			found(t, s, x, 9, guid.Of(1))
			held(t, s, 9, has[0] || has[1])
			if what == 0 {
				release(t, s, x, 1, 2, api.OK)
			} else {
				untable(t, s, x, uint32(what), api.OK)
			}
			has[what] = false
		}
		gone(t, s, x)
		held(t, s, 9, false)
		told(t, s)
		// The next one begins with nothing of what the first one had.
		y := named(t, s, 9, 2, at(0, 2))
		gone(t, s, x)
		untable(t, s, y, 1, api.ErrCount)
		release(t, s, y, 1, 1, api.ErrCount)
		held(t, s, 9, false)
	}
}

func TestIpidsThatNobodyGaveAreGone(t *testing.T) {
	s := created(t, 4)
	x := counted(t, s, 9, 1, 1, at(0, 1))
	y := counted(t, s, 8, 1, 1, at(1, 1))
	release(t, s, y, 1, 1, api.OK)
	wrong := []api.Guid{{}, y, guid.Of(1), guid.Of(2), guid.Of(1 << 32), guid.Of(topNum), at(0, 0), at(0, 2), at(0, top), at(1, 2), at(2, 1), at(3, 1), at(4, 1), at(65536, 1), at(1<<31, 1)}
	for i := range 16 {
		for _, bit := range []byte{1, 2, 128} {
			g := x
			g[i] ^= bit
			wrong = append(wrong, g)
		}
	}
	for _, ipid := range wrong {
		gone(t, s, ipid)
	}
	has(t, s, x, 1, 1)
	told(t, s, pair{x, 9})
}

// P17.3

func TestForget(t *testing.T) {
	s := created(t, 10)
	a := counted(t, s, 5, 3, 1, at(0, 1))
	b := counted(t, s, 3, 1, 1, at(1, 1))
	c := counted(t, s, 8, 9, 1, at(2, 1))
	counted(t, s, 3, 2, 2, b)
	d := export(t, s, 8, guid.Of(2), 2, 0, 0, at(3, 1))
	forget(t, s, 1, 5, 8)
	gone(t, s, a)
	gone(t, s, c)
	has(t, s, b, 2, 2)
	found(t, s, d, 8, guid.Of(2))
	told(t, s, pair{b, 3}, pair{d, 8})
	forget(t, s, 1)
	forget(t, s, 2, 3)
	told(t, s, pair{d, 8})
}

func TestForgetNobody(t *testing.T) {
	s := created(t, 4)
	forget(t, s, 0)
	x := counted(t, s, 9, 1, 1, at(0, 1))
	y := named(t, s, 8, 1, at(1, 1))
	z := named(t, s, 7, 2, at(2, 1))
	for _, holder := range numbers {
		if holder != 1 {
			forget(t, s, holder)
		}
	}
	told(t, s, pair{x, 9}, pair{y, 8}, pair{z, 7})
	has(t, s, x, 1, 1)
}

// TestForgetWhatIsHeldYet: by another holder, by a table, by another stub of the same target.
func TestForgetWhatIsHeldYet(t *testing.T) {
	s := created(t, 10)
	counted(t, s, 1, 1, 6, at(0, 1))
	counted(t, s, 1, 1, 7, at(0, 1))
	counted(t, s, 2, 1, 6, at(1, 1))
	named(t, s, 2, 1, at(1, 1))
	counted(t, s, 3, 1, 6, at(2, 1))
	export(t, s, 3, guid.Of(2), 0, 1, 7, at(3, 1))
	counted(t, s, 4, 1, 6, at(4, 1))
	export(t, s, 4, guid.Of(2), 1, 0, 0, at(5, 1))
	counted(t, s, 5, 1, 6, at(6, 1))
	named(t, s, 5, 2, at(6, 1))
	counted(t, s, 6, 1, 6, at(7, 1))
	forget(t, s, 6, 5, 6)
	for target := range uint64(5) {
		held(t, s, target, target > 0)
	}
	told(t, s, pair{at(0, 1), 1}, pair{at(1, 1), 2}, pair{at(3, 1), 3}, pair{at(5, 1), 4}, pair{at(6, 1), 5})
	untable(t, s, at(6, 1), 1, api.ErrCount)
	untable(t, s, at(6, 1), 2, api.OK)
	gone(t, s, at(6, 1))
}

func TestForgetTellsATargetOnce(t *testing.T) {
	s := created(t, 100)
	place := 0
	for _, target := range []uint64{topNum, 4, 0, 1 << 63} {
		for _, iid := range iids() {
			export(t, s, target, iid, 0, 1, 6, at(place, 1))
			place++
		}
	}
	// The weak ones don't hold it.
	export(t, s, 4, guid.Of(2), 2, 0, 0, at(place, 1))
	forget(t, s, 6, 0, 4, 1<<63, topNum)
	told(t, s, pair{at(place, 1), 4})
}

func TestForgetTellsRising(t *testing.T) {
	const many = 5000
	s := created(t, many)
	var want []uint64
	for i := range uint64(many) {
		// 7919 and 5000 have no divisor in common: each target once.
		counted(t, s, i*7919%many, 1, i%2, at(int(i), 1))
	}
	for target := range uint64(many) {
		if s.Count(guidOfTarget(t, s, target), 1) == 1 {
			want = append(want, target)
		}
	}
	if len(want) != many/2 {
		t.Fatal(len(want))
	}
	forget(t, s, 1, want...)
}

func guidOfTarget(t *testing.T, s *Stubs, target uint64) api.Guid {
	t.Helper()
	x, e := s.Export(target, guid.Of(1), 2, 0, 0)
	if e != api.OK || s.Untable(x.Ipid, 2) != api.OK {
		t.Fatal(e)
	}
	return x.Ipid
}

// TestForgetGoesByRisingPlaces: the place that was dropped last is taken first.
func TestForgetGoesByRisingPlaces(t *testing.T) {
	s := created(t, 10)
	for place, target := range []uint64{5, 9, 5, 2, 7, 2} {
		export(t, s, target, guid.Of(uint64(place)), 0, 1, uint64(place%5), at(place, 1))
	}
	// Place 1 is of a later generation than the ones behind it, and so a greater handle.
	release(t, s, at(1, 1), 1, 1, api.OK)
	export(t, s, 9, guid.Of(1), 0, 1, 0, at(1, 2))
	forget(t, s, 0, 9)
	told(t, s, pair{at(2, 1), 5}, pair{at(3, 1), 2}, pair{at(4, 1), 7})
	for i, ipid := range []api.Guid{at(5, 2), at(1, 3), at(0, 2), at(6, 1)} {
		export(t, s, 100, guid.Of(uint64(i)), 1, 0, 0, ipid)
	}
}

// TestDisconnectGoesByRisingPlaces: often, because a map is gone through in any order.
func TestDisconnectGoesByRisingPlaces(t *testing.T) {
	for range 20 {
		s := created(t, 20)
		for place := range 8 {
			export(t, s, 5, guid.Of(uint64(place)), 0, 1, 1, at(place, 1))
		}
		for _, place := range []int{6, 2} {
			release(t, s, at(place, 1), 1, 1, api.OK)
		}
		export(t, s, 5, guid.Of(60), 0, 1, 1, at(2, 2))
		export(t, s, 4, guid.Of(61), 0, 1, 1, at(6, 2))
		disconnect(t, s, 5, 7)
		for i, place := range []int{7, 5, 4, 3} {
			export(t, s, 100, guid.Of(uint64(i)), 1, 0, 0, at(place, 2))
		}
		export(t, s, 100, guid.Of(5), 1, 0, 0, at(2, 3))
		export(t, s, 100, guid.Of(6), 1, 0, 0, at(1, 2))
		export(t, s, 100, guid.Of(7), 1, 0, 0, at(0, 2))
		export(t, s, 100, guid.Of(8), 1, 0, 0, at(8, 1))
	}
}

func TestDisconnect(t *testing.T) {
	s := created(t, 10)
	a := counted(t, s, 9, top, 1, at(0, 1))
	b := export(t, s, 9, guid.Of(2), 1, 0, 0, at(1, 1))
	c := counted(t, s, 8, 1, 1, at(2, 1))
	d := export(t, s, 9, guid.Of(3), 2, 0, 0, at(3, 1))
	disconnect(t, s, 7, 0)
	disconnect(t, s, 9, 3)
	for _, ipid := range []api.Guid{a, b, d} {
		gone(t, s, ipid)
	}
	disconnect(t, s, 9, 0)
	told(t, s, pair{c, 8})
	has(t, s, c, 1, 1)
	// It may be reached anew, by other ipids.
	counted(t, s, 9, 1, 1, at(3, 2))
	gone(t, s, d)
	disconnect(t, s, 9, 1)
	disconnect(t, s, 8, 1)
	told(t, s)
}

func TestHeld(t *testing.T) {
	s := created(t, 10)
	for _, target := range numbers {
		held(t, s, target, false)
	}
	x := counted(t, s, 9, 1, 0, at(0, 1))
	held(t, s, 9, true)
	named(t, s, 9, 2, x)
	release(t, s, x, 0, 1, api.OK)
	held(t, s, 9, false)
	named(t, s, 9, 1, x)
	held(t, s, 9, true)
	add(t, s, x, 4, 1, api.OK)
	untable(t, s, x, 1, api.OK)
	held(t, s, 9, true)
	release(t, s, x, 4, 1, api.OK)
	held(t, s, 9, false)
	// One of several holds it, whichever it is.
	for i := range uint64(5) {
		export(t, s, 9, guid.Of(2+i), 2, 0, 0, at(int(i)+1, 1))
	}
	held(t, s, 9, false)
	for i := range uint64(6) {
		add(t, s, at(int(i), 1), 3, 1, api.OK)
		held(t, s, 9, true)
		release(t, s, at(int(i), 1), 3, 1, api.OK)
		held(t, s, 9, false)
		export(t, s, 9, guid.Of(1+i), 1, 0, 0, at(int(i), 1))
		held(t, s, 9, true)
		untable(t, s, at(int(i), 1), 1, api.OK)
		held(t, s, 9, false)
	}
	held(t, s, 8, false)
}

func TestWhatForgetToldIsNewMemory(t *testing.T) {
	s := created(t, 10)
	counted(t, s, 3, 1, 1, at(0, 1))
	counted(t, s, 4, 1, 1, at(1, 1))
	first := s.Forget(1)
	counted(t, s, 5, 1, 1, at(1, 2))
	counted(t, s, 6, 1, 1, at(0, 2))
	second := s.Forget(1)
	if !slices.Equal(first, []uint64{3, 4}) || !slices.Equal(second, []uint64{5, 6}) {
		t.Fatal(first, second)
	}
	second[0], second[1] = 8, 9
	if !slices.Equal(first, []uint64{3, 4}) {
		t.Fatal(first)
	}
	told(t, s)
}

func TestStubsDoNotSeeOneAnother(t *testing.T) {
	a, b := created(t, 2), created(t, 2)
	x := counted(t, a, 9, 1, 1, at(0, 1))
	counted(t, b, 8, 5, 1, at(0, 1))
	found(t, a, x, 9, guid.Of(1))
	found(t, b, x, 8, guid.Of(1))
	held(t, a, 8, false)
	forget(t, a, 1, 9)
	disconnect(t, a, 8, 0)
	gone(t, a, x)
	has(t, b, x, 1, 5)
}

func TestStubsThatNewDidNotMake(t *testing.T) {
	for _, s := range []*Stubs{nil, {}} {
		for _, n := range numbers {
			for _, l := range [][2]uint32{{0, 1}, {0, top}, {1, 0}, {2, 0}} {
				refused(t, s, n, guid.Of(n), l[0], l[1], n, api.ErrFull)
			}
			gone(t, s, guid.Of(n))
			gone(t, s, at(int(uint32(n)), 1))
			held(t, s, n, false)
			forget(t, s, n)
			disconnect(t, s, n, 0)
		}
		told(t, s)
	}
	var none *Stubs
	refused(t, none, 9, guid.Of(1), 7, 7, 1, api.ErrFull)
}

func TestAllGoesByRisingPlaces(t *testing.T) {
	s := created(t, 10)
	for i := range 5 {
		counted(t, s, uint64(50-i), 1, 1, at(i, 1))
	}
	release(t, s, at(3, 1), 1, 1, api.OK)
	release(t, s, at(1, 1), 1, 1, api.OK)
	counted(t, s, 60, 1, 1, at(1, 2))
	told(t, s, pair{at(0, 1), 50}, pair{at(1, 2), 60}, pair{at(2, 1), 48}, pair{at(4, 1), 46})
	counted(t, s, 61, 1, 1, at(3, 2))
	told(t, s, pair{at(0, 1), 50}, pair{at(1, 2), 60}, pair{at(2, 1), 48}, pair{at(3, 2), 61}, pair{at(4, 1), 46})
}

func TestAllStopsWhenItIsAskedTo(t *testing.T) {
	s := created(t, 5)
	for i := range 5 {
		counted(t, s, uint64(i), 1, 1, at(i, 1))
	}
	for stop := range 5 {
		n := 0
		for _, target := range s.All() {
			if target != uint64(n) {
				t.Fatal(target, n)
			}
			if n == stop {
				break
			}
			n++
		}
		if n != stop {
			t.Fatal(n, stop)
		}
	}
}

func TestAllTellsTheSameEachTime(t *testing.T) {
	s := created(t, 5)
	for i := range 4 {
		counted(t, s, uint64(9*i), 1, 1, at(i, 1))
	}
	all := s.All()
	want := pairs(all)
	n := 0
	for range all {
		place := 0
		for ipid, target := range all {
			if want[place] != (pair{ipid, target}) {
				t.Fatal(ipid, target)
			}
			place++
			n++
		}
	}
	if n != 16 || !slices.Equal(want, pairs(all)) {
		t.Fatal(n, want)
	}
}

func TestAllBeginsWhenItIsGoneOver(t *testing.T) {
	s := created(t, 5)
	all := s.All()
	counted(t, s, 9, 1, 1, at(0, 1))
	counted(t, s, 8, 1, 1, at(1, 1))
	if l := pairs(all); !slices.Equal(l, []pair{{at(0, 1), 9}, {at(1, 1), 8}}) {
		t.Fatal(l)
	}
	disconnect(t, s, 9, 1)
	counted(t, s, 7, 1, 1, at(0, 2))
	if l := pairs(all); !slices.Equal(l, []pair{{at(0, 2), 7}, {at(1, 1), 8}}) {
		t.Fatal(l)
	}
}

func TestAllTellsWhatWasThereWhenItBegan(t *testing.T) {
	change := map[string]func(s *Stubs, ipid api.Guid, target uint64){
		"export":     func(s *Stubs, ipid api.Guid, target uint64) { s.Export(target+100, guid.Of(1), 0, 1, 1) },
		"release":    func(s *Stubs, ipid api.Guid, target uint64) { s.Release(ipid, 1, 1) },
		"disconnect": func(s *Stubs, ipid api.Guid, target uint64) { s.Disconnect(7) },
		"forget":     func(s *Stubs, ipid api.Guid, target uint64) { s.Forget(1) },
		"anew": func(s *Stubs, ipid api.Guid, target uint64) {
			s.Forget(1)
			for i := range uint64(4) {
				s.Export(200+i, guid.Of(1), 0, 1, 1)
			}
		},
	}
	for name, do := range change {
		s := created(t, 10)
		for i, target := range []uint64{9, 8, 7} {
			counted(t, s, target, 1, 1, at(i, 1))
		}
		var l []pair
		for ipid, target := range s.All() {
			do(s, ipid, target)
			l = append(l, pair{ipid, target})
		}
		if !slices.Equal(l, []pair{{at(0, 1), 9}, {at(1, 1), 8}, {at(2, 1), 7}}) {
			t.Fatal(name, l)
		}
	}
}

// plain does as the chapter's words say: places in a row, each with a list of who names what is there.
type plain struct {
	most   int
	places []place
	free   []int
}

type place struct {
	generation uint32
	there      bool
	target     uint64
	iid        api.Guid
	names      []name
}

// name is a holder with its count, or a table (of the flags 1 and 2) with how often it names.
type name struct {
	flags  uint32
	holder uint64
	count  uint32
}

func (x *place) count(flags uint32, holder uint64) uint32 {
	for _, n := range x.names {
		if n.flags == flags && n.holder == holder {
			return n.count
		}
	}
	return 0
}

func (x *place) set(flags uint32, holder uint64, count uint32) {
	x.names = slices.DeleteFunc(x.names, func(n name) bool { return n.flags == flags && n.holder == holder })
	if count > 0 {
		x.names = append(x.names, name{flags, holder, count})
	}
}

func (x *place) holds() bool {
	return slices.ContainsFunc(x.names, func(n name) bool { return n.flags != 2 })
}

func (p *plain) end(i int) {
	x := &p.places[i]
	*x = place{generation: x.generation + 1}
	p.free = append(p.free, i)
}

// clear: all that are without counts and tables are no more.
func (p *plain) clear() {
	for i, x := range p.places {
		if x.there && len(x.names) == 0 {
			p.end(i)
		}
	}
}

func (p *plain) find(ipid api.Guid) *place {
	for i := range p.places {
		if x := &p.places[i]; x.there && at(i, x.generation) == ipid {
			return x
		}
	}
	return nil
}

func (p *plain) room() int {
	if n := len(p.free); n > 0 {
		i := p.free[n-1]
		p.free = p.free[:n-1]
		return i
	}
	if len(p.places) < p.most {
		p.places = append(p.places, place{generation: 1})
		return len(p.places) - 1
	}
	return -1
}

func (p *plain) export(target uint64, iid api.Guid, flags, refs uint32, holder uint64) (api.Objref, api.Errno) {
	if flags > 2 || (flags == 0) != (refs > 0) {
		return api.Objref{}, api.ErrArg
	}
	i := slices.IndexFunc(p.places, func(x place) bool { return x.there && x.target == target && x.iid == iid })
	if i < 0 {
		i = p.room()
		if i < 0 {
			return api.Objref{}, api.ErrFull
		}
		p.places[i].there, p.places[i].target, p.places[i].iid = true, target, iid
	}
	x, more := &p.places[i], refs
	if flags > 0 {
		holder, more = 0, 1
	}
	sum := uint64(x.count(flags, holder)) + uint64(more)
	if sum > top {
		return api.Objref{}, api.ErrCount
	}
	x.set(flags, holder, uint32(sum))
	return api.Objref{Flags: flags, Refs: refs, Oxid: oxid, Oid: target, Ipid: at(i, x.generation), Iid: iid}, api.OK
}

func (p *plain) more(ipid api.Guid, holder uint64, n int64) api.Errno {
	x := p.find(ipid)
	if x == nil {
		return api.ErrGone
	}
	sum := int64(x.count(0, holder)) + n
	if sum < 0 || sum > top {
		return api.ErrCount
	}
	x.set(0, holder, uint32(sum))
	return api.OK
}

func (p *plain) move(ipid api.Guid, from, to uint64, n uint32) api.Errno {
	if e := p.more(ipid, from, -int64(n)); e != api.OK {
		return e
	}
	e := p.more(ipid, to, int64(n))
	if e != api.OK {
		p.more(ipid, from, int64(n))
	}
	return e
}

func (p *plain) untable(ipid api.Guid, flags uint32) api.Errno {
	x := p.find(ipid)
	switch {
	case x == nil:
		return api.ErrGone
	case flags != 1 && flags != 2:
		return api.ErrArg
	case x.count(flags, 0) == 0:
		return api.ErrCount
	}
	x.set(flags, 0, x.count(flags, 0)-1)
	return api.OK
}

func (p *plain) held(target uint64) bool {
	return slices.ContainsFunc(p.places, func(x place) bool { return x.there && x.target == target && x.holds() })
}

func (p *plain) forget(holder uint64) []uint64 {
	before := p.targets()
	for i := range p.places {
		p.places[i].set(0, holder, 0)
	}
	p.clear()
	after := p.targets()
	return slices.DeleteFunc(before, func(x uint64) bool { return slices.Contains(after, x) })
}

// targets are those that are held.
func (p *plain) targets() []uint64 {
	var l []uint64
	for _, x := range p.places {
		if x.there && x.holds() {
			l = append(l, x.target)
		}
	}
	slices.Sort(l)
	return slices.Compact(l)
}

func (p *plain) disconnect(target uint64) int {
	n := 0
	for i, x := range p.places {
		if x.there && x.target == target {
			p.end(i)
			n++
		}
	}
	return n
}

func (p *plain) all() []pair {
	var l []pair
	for i, x := range p.places {
		if x.there {
			l = append(l, pair{at(i, x.generation), x.target})
		}
	}
	return l
}

// call is one of the calls, with all that any of them takes.
type call struct {
	kind       int
	target     uint64
	iid, ipid  api.Guid
	flags, n   uint32
	holder, to uint64
}

// do is what a call answers, as a text.
func (c call) do(s *Stubs) string {
	switch c.kind {
	case 0:
		x, e := s.Export(c.target, c.iid, c.flags, c.n, c.holder)
		return fmt.Sprint(x, e)
	case 1:
		return fmt.Sprint(s.Add(c.ipid, c.holder, c.n))
	case 2:
		return fmt.Sprint(s.Release(c.ipid, c.holder, c.n))
	case 3:
		return fmt.Sprint(s.Move(c.ipid, c.holder, c.to, c.n))
	case 4:
		return fmt.Sprint(s.Untable(c.ipid, c.flags))
	case 5:
		return fmt.Sprint(s.Forget(c.holder))
	default:
		return fmt.Sprint(s.Disconnect(c.target))
	}
}

func (c call) doPlain(p *plain) string {
	defer p.clear()
	switch c.kind {
	case 0:
		x, e := p.export(c.target, c.iid, c.flags, c.n, c.holder)
		return fmt.Sprint(x, e)
	case 1:
		return fmt.Sprint(p.more(c.ipid, c.holder, int64(c.n)))
	case 2:
		return fmt.Sprint(p.more(c.ipid, c.holder, -int64(c.n)))
	case 3:
		return fmt.Sprint(p.move(c.ipid, c.holder, c.to, c.n))
	case 4:
		return fmt.Sprint(p.untable(c.ipid, c.flags))
	case 5:
		return fmt.Sprint(p.forget(c.holder))
	default:
		return fmt.Sprint(p.disconnect(c.target))
	}
}

// alike does the same call of both, and asks whether they are still the same.
func alike(t *testing.T, s *Stubs, p *plain, c call) {
	t.Helper()
	if a, b := c.do(s), c.doPlain(p); a != b {
		t.Fatalf("%+v: %s, not %s", c, a, b)
	}
	want := p.all()
	told(t, s, want...)
	for _, x := range want {
		y := p.find(x.ipid)
		found(t, s, x.ipid, y.target, y.iid)
		for holder := range uint64(4) {
			has(t, s, x.ipid, holder, y.count(0, holder))
		}
	}
	for target := range uint64(5) {
		held(t, s, target, p.held(target))
	}
}

func TestAllShortRowsOfCalls(t *testing.T) {
	i, j := guid.Of(1), guid.Of(2)
	calls := []call{
		{kind: 0, target: 3, iid: i, n: 2, holder: 1},
		{kind: 0, target: 3, iid: j, n: top, holder: 1},
		{kind: 0, target: 3, iid: j, flags: 1},
		{kind: 0, target: 2, iid: i, flags: 2},
		{kind: 1, ipid: at(0, 1), holder: 2, n: 2},
		{kind: 2, ipid: at(0, 1), holder: 1, n: 2},
		{kind: 3, ipid: at(0, 1), holder: 1, to: 2, n: 2},
		{kind: 4, ipid: at(1, 1), flags: 1},
		{kind: 4, ipid: at(0, 1), flags: 2},
		{kind: 5, holder: 1},
		{kind: 6, target: 3},
	}
	for row := range 11 * 11 * 11 * 11 {
		s, p := created(t, 2), &plain{most: 2}
		for range 4 {
			alike(t, s, p, calls[row%11])
			row /= 11
		}
	}
}

func TestLongRowsOfCalls(t *testing.T) {
	seed := uint32(1)
	next := func(n int) int {
		seed = seed*1664525 + 1013904223
		return int(seed>>8) % n
	}
	for range 100 {
		most := 1 + next(8)
		s, p := created(t, most), &plain{most: most}
		seldom := 5 + next(40)                  // Forget and Disconnect leave little
		few := []uint32{0, 1, 2, 1, 3, top - 2} // counts that come to the least and to the greatest
		for range 500 {
			c := call{kind: next(seldom), target: uint64(next(5)), iid: guid.Of(uint64(next(3))), flags: uint32(next(4)), n: few[next(len(few))], holder: uint64(next(4)), to: uint64(next(4))}
			if c.kind > 6 {
				c.kind %= 5
			}
			if c.kind == 0 && c.flags > 0 && next(4) > 0 {
				c.n = 0
			}
			// One that is there, mostly.
			if l := p.all(); len(l) > 0 && next(8) > 0 {
				c.ipid = l[next(len(l))].ipid
			} else {
				c.ipid = at(next(most+1), uint32(next(4)))
			}
			alike(t, s, p, c)
		}
	}
}

func TestTheSameCallsComeToTheSame(t *testing.T) {
	run := func() []string {
		s := created(t, 40)
		seed := uint32(7)
		var l []string
		for range 5000 {
			seed = seed*1664525 + 1013904223
			c := call{kind: int(seed>>8) % 7, target: uint64(seed>>11) % 4, iid: guid.Of(uint64(seed>>13) % 20), n: 1, holder: uint64(seed>>17) % 3, ipid: at(int(seed>>19)%40, 1)}
			if c.kind > 4 && seed>>29 > 0 {
				c.kind = 0
			}
			l = append(l, c.do(s), fmt.Sprint(pairs(s.All())))
		}
		return l
	}
	if !slices.Equal(run(), run()) {
		t.Fatal("the same calls, and another answer")
	}
}
