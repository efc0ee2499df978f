package faces

import (
	"iter"
	"math"
	"slices"
	"testing"

	"tenon/api"
)

func id(n int) api.Guid {
	return api.Guid{0: byte(n >> 16), 7: byte(n >> 8), 15: byte(n)}
}

// row has these Bases; its Ids are id(0), id(1) and so on.
func row(bases ...int) []api.Face {
	l := make([]api.Face, len(bases))
	for i, b := range bases {
		l[i] = api.Face{Id: id(i), Base: b}
	}
	return l
}

// chain: each face is made of the one ahead of it.
func chain(n int) []api.Face {
	l := make([]api.Face, n)
	for i := range l {
		l[i] = api.Face{Id: id(i), Base: i - 1}
	}
	return l
}

// tree has the lines 0; 1, 0; 2, 1, 0; 3, 0; 4, 1, 0; 5, 3, 0; 6, 2, 1, 0.
func tree() []api.Face {
	return row(-1, 0, 1, 0, 1, 3, 2)
}

func checked(t *testing.T, l []api.Face, want api.Errno) {
	t.Helper()
	if e := Check(l); e != want {
		t.Errorf("Check(%v) = %v, not %v", l, e, want)
	}
}

func found(t *testing.T, l []api.Face, g api.Guid, want int, wantError api.Errno) {
	t.Helper()
	if i, e := Find(l, g); i != want || e != wantError {
		t.Errorf("Find(%v, %v) = %d, %v, not %d, %v", l, g, i, e, want, wantError)
	}
}

func gone(s iter.Seq[int]) []int {
	var l []int
	for i := range s {
		l = append(l, i)
	}
	return l
}

func lined(t *testing.T, l []api.Face, i int, want ...int) {
	t.Helper()
	if got := gone(Line(l, i)); !slices.Equal(got, want) {
		t.Errorf("Line(%v, %d) = %v, not %v", l, i, got, want)
	}
}

func is(t *testing.T, l []api.Face, i, j int, want bool) {
	t.Helper()
	if got := Is(l, i, j); got != want {
		t.Errorf("Is(%v, %d, %d) = %v", l, i, j, got)
	}
}

func common(t *testing.T, l []api.Face, i, j, want int, wantError api.Errno) {
	t.Helper()
	if k, e := Common(l, i, j); k != want || e != wantError {
		t.Errorf("Common(%v, %d, %d) = %d, %v, not %d, %v", l, i, j, k, e, want, wantError)
	}
}

func under(t *testing.T, l []api.Face, g api.Guid, want ...int) {
	t.Helper()
	if got := Under(l, g); !slices.Equal(got, want) {
		t.Errorf("Under(%v, %v) = %v, not %v", l, g, got, want)
	}
}

// noPlaces are no places of a row of n faces.
func noPlaces(n int) []int {
	return []int{math.MinInt, math.MinInt + 1, -n - 1, -n, -2, -1, n, n + 1, math.MaxInt - 1, math.MaxInt}
}

// P4.1

func TestCheckTakesRightRows(t *testing.T) {
	checked(t, row(-1), api.OK)
	checked(t, row(-1, 0), api.OK)
	checked(t, row(-1, 0, 1), api.OK)
	checked(t, row(-1, 0, 0), api.OK)
	checked(t, tree(), api.OK)
	// The Guid of noughts is an Id as others are, and Ids need no order.
	checked(t, []api.Face{{Id: api.Guid{15: 9}, Base: -1}, {Base: 0}, {Id: api.Guid{0: 1}, Base: 0}}, api.OK)
	// Ids that differ in one byte alone, whichever.
	for i := range 16 {
		a, b := id(7), id(7)
		b[i] ^= 0x80
		checked(t, []api.Face{{Id: a, Base: -1}, {Id: b, Base: 0}}, api.OK)
	}
}

func TestCheckCountsTheFaces(t *testing.T) {
	checked(t, nil, api.ErrTooMany)
	checked(t, []api.Face{}, api.ErrTooMany)
	for n := 1; n <= 2*api.MaxFaces; n++ {
		want := api.OK
		if n > api.MaxFaces {
			want = api.ErrTooMany
		}
		checked(t, chain(n), want)
	}
	checked(t, chain(100000), api.ErrTooMany)
	// Room behind the length holds no faces.
	checked(t, chain(17)[:16], api.OK)
	checked(t, chain(17)[:0], api.ErrTooMany)
}

func TestCheckHoldsTheFirstBase(t *testing.T) {
	for _, base := range []int{math.MinInt, -3, -2, 0, 1, 2, 16, math.MaxInt} {
		checked(t, row(base), api.ErrForm)
		checked(t, row(base, 0), api.ErrForm)
	}
}

func TestCheckHoldsTheOtherBases(t *testing.T) {
	for at := 1; at < api.MaxFaces; at++ {
		for base := range at {
			l := chain(api.MaxFaces)
			l[at].Base = base
			checked(t, l, api.OK)
		}
		for _, base := range []int{math.MinInt, -at, -2, -1, at, at + 1, api.MaxFaces, math.MaxInt} {
			l := chain(api.MaxFaces)
			l[at].Base = base
			checked(t, l, api.ErrForm)
		}
	}
}

func TestCheckHoldsTheIds(t *testing.T) {
	for at := range api.MaxFaces {
		for ahead := range at {
			l := chain(api.MaxFaces)
			l[at].Id = l[ahead].Id
			checked(t, l, api.ErrThere)
		}
	}
	checked(t, make([]api.Face, 1), api.ErrForm)
	checked(t, []api.Face{{Base: -1}, {Base: 0}}, api.ErrThere)
}

func TestCheckTellsOfTheFirstFaceThatIsWrong(t *testing.T) {
	l := chain(4)
	l[2].Id, l[3].Base = l[1].Id, 3
	checked(t, l, api.ErrThere)
	l = chain(4)
	l[2].Base, l[3].Id = -1, l[1].Id
	checked(t, l, api.ErrForm)
	// Of one face both hold: its Base is named first.
	l = chain(4)
	l[2] = api.Face{Id: id(0), Base: 2}
	checked(t, l, api.ErrForm)
	// So many of them are named ahead of all.
	l = chain(17)
	l[0].Base, l[1].Id = 0, l[0].Id
	checked(t, l, api.ErrTooMany)
}

// P4.2

func TestFind(t *testing.T) {
	l := tree()
	for i := range l {
		found(t, l, id(i), i, api.OK)
	}
	found(t, l, id(9), 0, api.ErrFace)
	found(t, l, api.Guid{0: 1}, 0, api.ErrFace)
	found(t, nil, api.Guid{}, 0, api.ErrFace)
	found(t, []api.Face{}, id(1), 0, api.ErrFace)
	// The Guid of noughts is an Id as others are.
	found(t, []api.Face{{Id: id(1)}, {}}, api.Guid{}, 1, api.OK)
	// A row that isn't right: the first one of several.
	found(t, []api.Face{{Id: id(3), Base: 7}, {Id: id(5), Base: 1}, {Id: id(5)}, {Id: id(3)}}, id(5), 1, api.OK)
	// Room behind the length isn't read.
	found(t, l[:3], id(3), 0, api.ErrFace)
}

func TestFindHoldsEachByte(t *testing.T) {
	for i := range 16 {
		near := id(7)
		near[i]++
		l := []api.Face{{Id: near, Base: -1}, {Id: id(7), Base: 0}}
		found(t, l, id(7), 1, api.OK)
		found(t, l[:1], id(7), 0, api.ErrFace)
	}
}

func TestLine(t *testing.T) {
	l := tree()
	lined(t, l, 0, 0)
	lined(t, l, 1, 1, 0)
	lined(t, l, 2, 2, 1, 0)
	lined(t, l, 3, 3, 0)
	lined(t, l, 4, 4, 1, 0)
	lined(t, l, 5, 5, 3, 0)
	lined(t, l, 6, 6, 2, 1, 0)
}

func TestLineOfNoFace(t *testing.T) {
	for _, l := range [][]api.Face{nil, {}, row(-1), tree(), row(4, 4, 4)} {
		for _, i := range noPlaces(len(l)) {
			lined(t, l, i)
		}
	}
	// Room behind the length isn't read: there is no face 3.
	lined(t, tree()[:3], 3)
	lined(t, tree()[:0], 0)
}

func TestLineEndsWhereTheNextOneIsNoLesserPlace(t *testing.T) {
	lined(t, row(0), 0, 0)
	lined(t, row(5, 0), 1, 1, 0)
	lined(t, row(-1, 1), 1, 1)
	lined(t, row(-1, 2, 0), 1, 1)
	lined(t, row(1, 0), 0, 0)
	lined(t, row(1, 0), 1, 1, 0)
	lined(t, row(-1, -1, 1), 2, 2, 1)
	lined(t, row(-1, -7, 1), 2, 2, 1)
	lined(t, row(-1, math.MinInt, 1), 2, 2, 1)
	lined(t, row(-1, math.MaxInt, 1), 2, 2, 1)
	lined(t, row(-1, 3, 1, 1), 3, 3, 1)
	lined(t, row(2, 2, 2, 2), 3, 3, 2)
}

func TestLineStopsWhenItIsAskedTo(t *testing.T) {
	for most := 1; most <= 4; most++ {
		n := 0
		Line(tree(), 6)(func(int) bool {
			n++
			return n < most
		})
		if n != most {
			t.Errorf("it told %d and was asked to stop behind %d", n, most)
		}
	}
}

func TestLineTellsTheSameEachTime(t *testing.T) {
	s := Line(tree(), 6)
	for range s {
		break
	}
	for range 3 {
		if l := gone(s); !slices.Equal(l, []int{6, 2, 1, 0}) {
			t.Fatal(l)
		}
	}
	n := 0
	for range s {
		for range s {
			n++
		}
	}
	if n != 16 {
		t.Fatal(n)
	}
}

// R4: nothing of the row is kept but by its values, so that what becomes of it later isn't seen.
func TestLineDoesNotKeepTheRow(t *testing.T) {
	l := tree()
	s := Line(l, 6)
	for i := range l {
		l[i] = api.Face{Base: -1}
	}
	for range 2 {
		if got := gone(s); !slices.Equal(got, []int{6, 2, 1, 0}) {
			t.Fatal(got)
		}
	}
	l = tree()
	var got []int
	for i := range Line(l, 6) {
		l[2].Base, l[i].Base = 0, -1
		got = append(got, i)
	}
	if !slices.Equal(got, []int{6, 2, 1, 0}) {
		t.Fatal(got)
	}
}

func TestIs(t *testing.T) {
	l := tree()
	is(t, l, 4, 4, true)
	is(t, l, 4, 1, true)
	is(t, l, 4, 0, true)
	is(t, l, 4, 2, false)
	is(t, l, 4, 3, false)
	is(t, l, 0, 4, false)
	is(t, l, 1, 4, false)
	is(t, l, 5, 1, false)
	is(t, l, 6, 2, true)
	for _, k := range noPlaces(len(l)) {
		is(t, l, 4, k, false)
		is(t, l, k, 0, false)
		is(t, l, k, k, false)
	}
	is(t, nil, 0, 0, false)
	is(t, tree()[:3], 3, 0, false)
	is(t, tree()[:3], 3, 3, false)
	// -1 is the Base of a face that has no base, but no place.
	is(t, l, 0, -1, false)
	is(t, row(0, 0), 0, 0, true)
	is(t, row(1, 0), 0, 1, false)
}

func TestCommon(t *testing.T) {
	l := tree()
	common(t, l, 1, 2, 1, api.OK)
	common(t, l, 2, 1, 1, api.OK)
	common(t, l, 2, 4, 1, api.OK)
	common(t, l, 4, 5, 0, api.OK)
	common(t, l, 5, 6, 0, api.OK)
	common(t, l, 6, 4, 1, api.OK)
	common(t, l, 6, 2, 2, api.OK)
	common(t, l, 3, 3, 3, api.OK)
	common(t, l, 0, 0, 0, api.OK)
	for _, k := range noPlaces(len(l)) {
		common(t, l, 2, k, 0, api.ErrFace)
		common(t, l, k, 2, 0, api.ErrFace)
		common(t, l, k, k, 0, api.ErrFace)
	}
	common(t, nil, 0, 0, 0, api.ErrFace)
	common(t, tree()[:3], 2, 3, 0, api.ErrFace)
}

func TestCommonOfLinesThatDoNotMeet(t *testing.T) {
	common(t, row(-1, -1), 0, 1, 0, api.ErrFace)
	common(t, row(-1, -1), 1, 0, 0, api.ErrFace)
	common(t, row(-1, -1, 0, 1, 2, 3), 4, 5, 0, api.ErrFace)
	common(t, row(-1, -1, 0, 1, 2, 3), 5, 4, 0, api.ErrFace)
	common(t, row(-1, -1, 0, 1, 2, 3), 5, 1, 1, api.OK)
	common(t, row(-1, -1, 0, 1, 2, 3), 5, 0, 0, api.ErrFace)
	// They meet above 0.
	common(t, row(-1, 1, 1, 2, 1), 3, 4, 1, api.OK)
}

func TestUnder(t *testing.T) {
	l := tree()
	under(t, l, id(0), 0, 1, 2, 3, 4, 5, 6)
	under(t, l, id(1), 1, 2, 4, 6)
	under(t, l, id(2), 2, 6)
	under(t, l, id(3), 3, 5)
	under(t, l, id(4), 4)
	under(t, l, id(6), 6)
	under(t, l, id(7))
	under(t, nil, id(0))
	under(t, []api.Face{}, id(0))
	under(t, l[:3], id(1), 1, 2)
	under(t, l[:3], id(3))
}

func TestUnderInRowsThatAreNotRight(t *testing.T) {
	// Two of one Id.
	l := row(-1, 0, 1, 0, 3)
	l[3].Id = l[1].Id
	under(t, l, id(1), 1, 2, 3, 4)
	under(t, l, id(3))
	// One of the Id again in a line that has it already.
	l = row(-1, 0, 1, 2)
	l[2].Id = l[0].Id
	under(t, l, id(0), 0, 1, 2, 3)
	// Bases that lead nowhere.
	under(t, row(-1, 1, 3, 2, 9), id(0), 0)
	under(t, row(-1, 1, 3, 2, 9), id(2), 2, 3)
	under(t, row(-1, 1, 3, 2, 9), id(3), 3)
}

func TestUnderIsNewMemory(t *testing.T) {
	l := tree()
	u := Under(l, id(1))
	for i := range u {
		u[i] = 99
	}
	under(t, l, id(1), 1, 2, 4, 6)
}

// R4: neither the elements nor the room behind them change.
func TestRowsAreLeftAlone(t *testing.T) {
	room := tree()
	room[5].Id = room[1].Id
	before := slices.Clone(room)
	l := room[:4]
	Check(l)
	for i := -1; i <= len(l); i++ {
		Find(l, id(i))
		gone(Line(l, i))
		Under(l, id(i))
		for j := -1; j <= len(l); j++ {
			Is(l, i, j)
			Common(l, i, j)
		}
	}
	if !slices.Equal(room, before) {
		t.Error(room)
	}
}

// P4.2 of all short rows: against plain searches that go by the chapter's words.

func plainLine(l []api.Face, i int) []int {
	var line []int
	for i >= 0 && i < len(l) {
		line = append(line, i)
		if l[i].Base >= i {
			break
		}
		i = l[i].Base
	}
	return line
}

func plainCommon(l []api.Face, i, j int) (int, api.Errno) {
	other := plainLine(l, j)
	for _, k := range plainLine(l, i) {
		if slices.Contains(other, k) {
			return k, api.OK
		}
	}
	return 0, api.ErrFace
}

func plainUnder(l []api.Face, g api.Guid) []int {
	var under []int
	for i := range l {
		if slices.ContainsFunc(plainLine(l, i), func(k int) bool { return l[k].Id == g }) {
			under = append(under, i)
		}
	}
	return under
}

func plainCheck(l []api.Face) api.Errno {
	if len(l) == 0 || len(l) > 16 {
		return api.ErrTooMany
	}
	for i, f := range l {
		if i == 0 && f.Base != -1 || i > 0 && (f.Base < 0 || f.Base >= i) {
			return api.ErrForm
		}
		for _, ahead := range l[:i] {
			if ahead.Id == f.Id {
				return api.ErrThere
			}
		}
	}
	return api.OK
}

func compare(t *testing.T, l []api.Face) {
	t.Helper()
	checked(t, l, plainCheck(l))
	for i := -1; i <= len(l); i++ {
		line := plainLine(l, i)
		lined(t, l, i, line...)
		for j := -1; j <= len(l); j++ {
			is(t, l, i, j, slices.Contains(line, j))
			k, e := plainCommon(l, i, j)
			common(t, l, i, j, k, e)
		}
		under(t, l, id(i), plainUnder(l, id(i))...)
	}
}

// rows tells all rows of n faces whose Bases are -2 to n + 1, and whose Ids are among the first three.
func rows(n int) iter.Seq[[]api.Face] {
	return func(yield func([]api.Face) bool) {
		kinds := (n + 4) * 3
		all := 1
		for range n {
			all *= kinds
		}
		for k := range all {
			l := make([]api.Face, n)
			for i := range l {
				l[i] = api.Face{Id: id(k % 3), Base: k/3%(n+4) - 2}
				k /= kinds
			}
			if !yield(l) {
				return
			}
		}
	}
}

func TestAllShortRows(t *testing.T) {
	for n := range 4 {
		for l := range rows(n) {
			compare(t, l)
		}
	}
}

// dice makes a row by a rule: no two runs of the tests differ.
type dice uint32

func (d *dice) below(n int) int {
	*d = *d*1664525 + 1013904223
	return int(*d>>16) % n
}

func TestLongerRows(t *testing.T) {
	d := dice(1)
	for range 1500 {
		l := make([]api.Face, 1+d.below(20))
		wild := d.below(3)
		for i := range l {
			base := d.below(max(i, 1))
			if wild > 0 && d.below(6/wild) == 0 {
				base = d.below(len(l)+4) - 2
			}
			if i == 0 && d.below(8) > 0 {
				base = -1
			}
			l[i] = api.Face{Id: id(i), Base: base}
			if d.below(12) == 0 {
				l[i].Id = id(d.below(len(l)))
			}
		}
		compare(t, l)
	}
}

// P4.3

func rightRow(d *dice) []api.Face {
	l := make([]api.Face, 1+d.below(api.MaxFaces))
	for i := range l {
		l[i] = api.Face{Id: id(i), Base: d.below(max(i, 1))}
	}
	l[0].Base = -1
	return l
}

func TestInARightRow(t *testing.T) {
	d := dice(2)
	for range 500 {
		l := rightRow(&d)
		checked(t, l, api.OK)
		under(t, l, l[0].Id, plainUnder(l, l[0].Id)...)
		if n := len(Under(l, l[0].Id)); n != len(l) {
			t.Fatalf("%d of %v are under the first one", n, l)
		}
		for i := range l {
			line := gone(Line(l, i))
			if line[0] != i || line[len(line)-1] != 0 {
				t.Fatalf("Line(%v, %d) = %v", l, i, line)
			}
			for j := range l {
				k, e := Common(l, i, j)
				if e != api.OK || !Is(l, i, k) || !Is(l, j, k) {
					t.Fatalf("Common(%v, %d, %d) = %d, %v", l, i, j, k, e)
				}
				// It goes both ways.
				common(t, l, j, i, k, api.OK)
			}
		}
	}
}

// R1: rows of any length come to their end, and not by looking at each line for each face.
func TestGreatRows(t *testing.T) {
	const n = 1000000
	l := chain(n)
	if line := gone(Line(l, n-1)); len(line) != n || line[0] != n-1 || line[n-1] != 0 {
		t.Error(len(line))
	}
	if !Is(l, n-1, 0) || Is(l, 0, n-1) {
		t.Error("Is")
	}
	if u := Under(l, api.Guid{3: 1}); len(u) != 0 {
		t.Error(len(u))
	}
	if u := Under(l, l[5].Id); len(u) != n-5 || u[0] != 5 || u[n-6] != n-1 {
		t.Error(len(u))
	}
	if k, e := Common(l, n-1, 3); k != 3 || e != api.OK {
		t.Error(k, e)
	}
	// The one's line ends above the whole of the other's.
	l[n/2].Base = -1
	if k, e := Common(l, n/2-1, n-1); k != 0 || e != api.ErrFace {
		t.Error(k, e)
	}
	if k, e := Common(l, n-1, n/2-1); k != 0 || e != api.ErrFace {
		t.Error(k, e)
	}
	// Two lines that lie within one another and never meet.
	for i := range l {
		l[i].Base = i - 2
	}
	if k, e := Common(l, n-1, n-2); k != 0 || e != api.ErrFace {
		t.Error(k, e)
	}
	if k, e := Common(l, n-2, n-1); k != 0 || e != api.ErrFace {
		t.Error(k, e)
	}
}
