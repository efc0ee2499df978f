package ring

import (
	"fmt"
	"iter"
	"math"
	"slices"
	"testing"

	"tenon/api"
)

type pair struct {
	i int
	x int
}

func created(t *testing.T, most int) *Ring[int] {
	t.Helper()
	r, e := New[int](most)
	if e != api.OK || r == nil {
		t.Fatalf("New(%d) = %v, %v", most, r, e)
	}
	return r
}

func put(t *testing.T, r *Ring[int], l ...int) {
	t.Helper()
	for _, x := range l {
		if e := r.Put(x); e != api.OK {
			t.Fatalf("Put(%d) = %v", x, e)
		}
	}
}

func take(t *testing.T, r *Ring[int], l ...int) {
	t.Helper()
	for _, want := range l {
		if x, e := r.Take(); x != want || e != api.OK {
			t.Fatalf("Take() = %d, %v, not %d", x, e, want)
		}
	}
}

// full: R5 too, what is refused changes nothing.
func full(t *testing.T, r *Ring[int]) {
	t.Helper()
	before := pairs(r.All())
	if e := r.Put(-1); e != api.ErrFull {
		t.Fatalf("Put = %v, not ErrFull", e)
	}
	if after := pairs(r.All()); !slices.Equal(before, after) {
		t.Fatalf("a Put that was refused turned %v into %v", before, after)
	}
}

func empty(t *testing.T, r *Ring[int]) {
	t.Helper()
	if x, e := r.Take(); x != 0 || e != api.ErrNone {
		t.Fatalf("Take() = %d, %v, not ErrNone", x, e)
	}
	has(t, r)
}

// has asks all that tells what is in r.
func has(t *testing.T, r *Ring[int], want ...int) {
	t.Helper()
	if n := r.Len(); n != len(want) {
		t.Fatalf("Len() = %d, not %d: %v", n, len(want), want)
	}
	for i, y := range want {
		if x, e := r.At(i); x != y || e != api.OK {
			t.Fatalf("At(%d) = %d, %v, not %d", i, x, e, y)
		}
	}
	for _, i := range []int{-1, len(want), len(want) + 1, -len(want), 65535, 65536, 1 << 32, math.MaxInt, math.MinInt} {
		if i >= 0 && i < len(want) {
			continue
		}
		if x, e := r.At(i); x != 0 || e != api.ErrNone {
			t.Fatalf("At(%d) = %d, %v, not ErrNone", i, x, e)
		}
	}
	there := forth(want...)
	if l := pairs(r.All()); !slices.Equal(l, there) {
		t.Fatalf("All tells %v, not %v", l, there)
	}
	slices.Reverse(there)
	if l := pairs(r.Back()); !slices.Equal(l, there) {
		t.Fatalf("Back tells %v, not %v", l, there)
	}
}

func pairs(all iter.Seq2[int, int]) []pair {
	var l []pair
	for i, x := range all {
		l = append(l, pair{i, x})
	}
	return l
}

func forth(l ...int) []pair {
	var p []pair
	for i, x := range l {
		p = append(p, pair{i, x})
	}
	return p
}

func back(l ...int) []pair {
	p := forth(l...)
	slices.Reverse(p)
	return p
}

// turned is a ring in which the things begin at any cell.
func turned(t *testing.T, most, turns int, l ...int) *Ring[int] {
	t.Helper()
	r := created(t, most)
	for range most {
		put(t, r, 99)
	}
	for range turns {
		take(t, r, 99)
		put(t, r, 99)
	}
	for range most {
		take(t, r, 99)
	}
	put(t, r, l...)
	return r
}

// P14.1

func TestNew(t *testing.T) {
	for _, most := range []int{1, 2, 3, 16, 255, 256, 65535, 65536} {
		empty(t, created(t, most))
	}
}

func TestNewRefuses(t *testing.T) {
	for _, most := range []int{0, -1, -16, 65537, 1 << 17, math.MaxInt32, 1<<32 + 1, math.MaxInt, math.MinInt, -65536} {
		if r, e := New[int](most); r != nil || e != api.ErrArg {
			t.Errorf("New(%d) = %v, %v", most, r, e)
		}
	}
}

func TestTheChaptersExample(t *testing.T) {
	r := created(t, 2)
	put(t, r, 10, 11)
	full(t, r)
	take(t, r, 10)
	put(t, r, 12)
	has(t, r, 11, 12)
}

func TestWhatWasPutFirstIsTakenFirst(t *testing.T) {
	r := created(t, 4)
	put(t, r, 1)
	has(t, r, 1)
	put(t, r, 2, 3)
	has(t, r, 1, 2, 3)
	take(t, r, 1)
	has(t, r, 2, 3)
	put(t, r, 4, 5)
	has(t, r, 2, 3, 4, 5)
	take(t, r, 2, 3, 4, 5)
	empty(t, r)
	empty(t, r)
	put(t, r, 6)
	has(t, r, 6)
}

func TestRowsOfEachLengthAreFull(t *testing.T) {
	for most := 1; most <= 70; most++ {
		r := created(t, most)
		var l []int
		for x := range most {
			has(t, r, l...)
			put(t, r, x+1)
			l = append(l, x+1)
		}
		for range 3 {
			full(t, r)
			has(t, r, l...)
		}
		take(t, r, 1)
		put(t, r, most+1)
		full(t, r)
		has(t, r, append(l[1:], most+1)...)
	}
}

func TestARowGoesAround(t *testing.T) {
	for most := 1; most <= 9; most++ {
		for within := 0; within < most; within++ {
			r := created(t, most)
			var l []int
			for x := range within {
				put(t, r, x)
				l = append(l, x)
			}
			for x := within; x < within+5*most; x++ {
				put(t, r, x)
				l = append(l, x)
				has(t, r, l...)
				take(t, r, l[0])
				l = l[1:]
				has(t, r, l...)
			}
		}
	}
}

// A row that has room for more than ever waited is made longer while its beginning stands anywhere.
func TestARowGrowsWhereverItBegins(t *testing.T) {
	for most := 1; most <= 20; most++ {
		for few := 1; few <= most; few++ {
			for turns := range few + 1 {
				r := created(t, most)
				var l []int
				x := 0
				for range few {
					put(t, r, x)
					l = append(l, x)
					x++
				}
				for range turns {
					take(t, r, l[0])
					put(t, r, x)
					l = append(l[1:], x)
					x++
				}
				for len(l) < most {
					put(t, r, x)
					l = append(l, x)
					x++
				}
				has(t, r, l...)
				full(t, r)
				take(t, r, l...)
				empty(t, r)
			}
		}
	}
}

func TestTheGreatestRow(t *testing.T) {
	r := created(t, 65536)
	for x := range 65536 {
		put(t, r, x)
	}
	full(t, r)
	for x := range 70000 {
		take(t, r, x)
		put(t, r, x+65536)
	}
	full(t, r)
	if r.Len() != 65536 {
		t.Fatal(r.Len())
	}
	for _, i := range []int{0, 1, 32767, 65535} {
		if x, e := r.At(i); x != 70000+i || e != api.OK {
			t.Fatal(i, x, e)
		}
	}
	if x, e := r.At(65536); x != 0 || e != api.ErrNone {
		t.Fatal(x, e)
	}
	n := 0
	for i, x := range r.All() {
		if i != n || x != 70000+i {
			t.Fatal(i, x)
		}
		n++
	}
	for i, x := range r.Back() {
		n--
		if i != n || x != 70000+i {
			t.Fatal(i, x)
		}
	}
	if n != 0 {
		t.Fatal(n)
	}
}

// Room for the most of great things at once would be more than any machine has.
func TestAGreatRowOfGreatThings(t *testing.T) {
	r, e := New[[1 << 24]byte](65536)
	if e != api.OK {
		t.Fatal(e)
	}
	var x [1 << 24]byte
	x[7] = 8
	if e := r.Put(x); e != api.OK {
		t.Fatal(e)
	}
	if y, e := r.Take(); y[7] != 8 || e != api.OK {
		t.Fatal(y[7], e)
	}
}

func TestZeroValuesAreThings(t *testing.T) {
	r := created(t, 2)
	put(t, r, 0, 0)
	full(t, r)
	has(t, r, 0, 0)
	take(t, r, 0, 0)
	empty(t, r)

	p, _ := New[*int](1)
	if e := p.Put(nil); e != api.OK || p.Len() != 1 {
		t.Fatal(e)
	}
	if x, e := p.At(0); x != nil || e != api.OK {
		t.Fatal(x, e)
	}
	if x, e := p.Take(); x != nil || e != api.OK || p.Len() != 0 {
		t.Fatal(x, e)
	}

	s, _ := New[struct{}](3)
	for range 3 {
		if e := s.Put(struct{}{}); e != api.OK {
			t.Fatal(e)
		}
	}
	if e := s.Put(struct{}{}); e != api.ErrFull || s.Len() != 3 {
		t.Fatal(e)
	}
}

func TestErrorsTellNothingOfAnyType(t *testing.T) {
	r, _ := New[string](2)
	l, _ := New[[]int](2)
	for range 2 {
		if x, e := r.Take(); x != "" || e != api.ErrNone {
			t.Fatal(x, e)
		}
		if x, e := r.At(0); x != "" || e != api.ErrNone {
			t.Fatal(x, e)
		}
		if x, e := l.Take(); x != nil || e != api.ErrNone {
			t.Fatal(x, e)
		}
		if x, e := l.At(1); x != nil || e != api.ErrNone {
			t.Fatal(x, e)
		}
		// What was in it before isn't told, either.
		r.Put("a")
		r.Take()
		l.Put([]int{1})
		l.Take()
	}
}

func TestRingsDoNotSeeOneAnother(t *testing.T) {
	a, b := created(t, 2), created(t, 2)
	put(t, a, 1, 2)
	empty(t, b)
	put(t, b, 3)
	take(t, a, 1)
	has(t, a, 2)
	has(t, b, 3)
}

func TestWhatWasTakenIsNotKept(t *testing.T) {
	r, _ := New[*int](5)
	for range 4 {
		for n := range 5 {
			r.Put(&n)
		}
		for range 3 {
			r.Take()
		}
		kept := 0
		for _, x := range r.cells {
			if x != nil {
				kept++
			}
		}
		if kept != 2 {
			t.Fatalf("%d are kept", kept)
		}
		r.Take()
		r.Take()
	}
}

// P14.2

func TestAllAndBack(t *testing.T) {
	r := created(t, 5)
	has(t, r)
	put(t, r, 7, 8, 9)
	if l := pairs(r.All()); !slices.Equal(l, []pair{{0, 7}, {1, 8}, {2, 9}}) {
		t.Fatal(l)
	}
	if l := pairs(r.Back()); !slices.Equal(l, []pair{{2, 9}, {1, 8}, {0, 7}}) {
		t.Fatal(l)
	}
	take(t, r, 7)
	if l := pairs(r.All()); !slices.Equal(l, []pair{{0, 8}, {1, 9}}) {
		t.Fatal(l)
	}
	if l := pairs(r.Back()); !slices.Equal(l, []pair{{1, 9}, {0, 8}}) {
		t.Fatal(l)
	}
}

func TestTheyStopWhenTheyAreAskedTo(t *testing.T) {
	for turns := range 6 {
		r := turned(t, 5, turns, 1, 2, 3, 4, 5)
		for _, all := range []iter.Seq2[int, int]{r.All(), r.Back()} {
			for most := 1; most <= 5; most++ {
				n := 0
				all(func(int, int) bool {
					n++
					return n < most
				})
				if n != most {
					t.Errorf("it told %d and was asked to stop behind %d", n, most)
				}
			}
		}
		has(t, r, 1, 2, 3, 4, 5)
	}
}

func TestTheyTellTheSameEachTime(t *testing.T) {
	r := turned(t, 4, 3, 1, 2, 3)
	all, down := r.All(), r.Back()
	for range all {
		break
	}
	for range down {
		break
	}
	for range 3 {
		if l := pairs(all); !slices.Equal(l, forth(1, 2, 3)) {
			t.Fatal(l)
		}
		if l := pairs(down); !slices.Equal(l, back(1, 2, 3)) {
			t.Fatal(l)
		}
	}
	var l []pair
	for i := range all {
		for j, x := range down {
			l = append(l, pair{i*10 + j, x})
		}
	}
	if want := []pair{{2, 3}, {1, 2}, {0, 1}, {12, 3}, {11, 2}, {10, 1}, {22, 3}, {21, 2}, {20, 1}}; !slices.Equal(l, want) {
		t.Fatal(l)
	}
}

// A going over begins when it is ranged over: what was put since All was called is told.
func TestTheyBeginWhenTheyAreGoneOver(t *testing.T) {
	r := created(t, 3)
	all, down := r.All(), r.Back()
	for range 2 {
		if l := append(pairs(all), pairs(down)...); len(l) != 0 {
			t.Fatal(l)
		}
		put(t, r, 1, 2)
		if l := pairs(all); !slices.Equal(l, forth(1, 2)) {
			t.Fatal(l)
		}
		if l := pairs(down); !slices.Equal(l, back(1, 2)) {
			t.Fatal(l)
		}
		take(t, r, 1, 2)
	}
}

func TestTheyTellWhatWasThereWhenTheyBegan(t *testing.T) {
	for _, most := range []int{3, 4, 7} {
		for turns := range most {
			for _, way := range []struct {
				all  func(*Ring[int]) iter.Seq2[int, int]
				want []pair
			}{
				{(*Ring[int]).All, forth(1, 2, 3)},
				{(*Ring[int]).Back, back(1, 2, 3)},
			} {
				r := turned(t, most, turns, 1, 2, 3)
				var l []pair
				for i, x := range way.all(r) {
					l = append(l, pair{i, x})
					if len(l) > 1 {
						continue
					}
					take(t, r, 1, 2, 3)
					put(t, r, 4, 5, 6)
				}
				if !slices.Equal(l, way.want) {
					t.Fatal(l)
				}
				has(t, r, 4, 5, 6)
			}
		}
	}
}

func TestPutAndTakeWhatIsGoneOver(t *testing.T) {
	r := created(t, 100)
	for x := range 50 {
		put(t, r, x)
	}
	for i, x := range r.All() {
		if i != x {
			t.Fatal(i, x)
		}
		take(t, r, x)
		put(t, r, x+50, x+100)
	}
	full(t, r)
	for i, x := range r.Back() {
		if want := 50 + i/2 + i%2*50; x != want {
			t.Fatal(i, x)
		}
		if _, e := r.Take(); e != api.OK {
			t.Fatal(e)
		}
	}
	empty(t, r)
}

func TestNilRing(t *testing.T) {
	for _, r := range []*Ring[int]{nil, new(Ring[int])} {
		for range 2 {
			full(t, r)
			empty(t, r)
			if x, e := r.At(0); x != 0 || e != api.ErrNone {
				t.Fatal(x, e)
			}
			for range r.All() {
				t.Fatal("told")
			}
			for range r.Back() {
				t.Fatal("told")
			}
		}
	}
}

// Both, in rows of calls: against a plain list.

func step(t *testing.T, r *Ring[int], most int, l []int, x int) []int {
	t.Helper()
	e := r.Put(x)
	if len(l) == most {
		if e != api.ErrFull {
			t.Fatalf("Put(%d) into a full row = %v", x, e)
		}
		return l
	}
	if e != api.OK {
		t.Fatalf("Put(%d) = %v", x, e)
	}
	return append(slices.Clone(l), x)
}

func stepDown(t *testing.T, r *Ring[int], l []int) []int {
	t.Helper()
	if len(l) == 0 {
		empty(t, r)
		return l
	}
	take(t, r, l[0])
	return l[1:]
}

func TestAllShortRowsOfCalls(t *testing.T) {
	const calls = 11
	for most := 1; most <= 6; most++ {
		for row := range 1 << calls {
			r := created(t, most)
			var l []int
			for n := range calls {
				if row>>n&1 == 0 {
					l = step(t, r, most, l, n+1)
				} else {
					l = stepDown(t, r, l)
				}
			}
			has(t, r, l...)
		}
	}
}

func TestLongRowsOfCalls(t *testing.T) {
	for _, most := range []int{1, 2, 3, 5, 8, 17, 64, 100} {
		for seed := range uint32(4) {
			t.Run(fmt.Sprint(most, seed), func(t *testing.T) {
				play(t, most, seed)
			})
		}
	}
}

// play leans to putting and to taking by turns, so that the row is empty and full again and again.
func play(t *testing.T, most int, seed uint32) {
	r := created(t, most)
	var l []int
	for n := range 4000 {
		seed = seed*1664525 + 1013904223
		dice := int(seed >> 16)
		leaning := 1 + 2*(n/(3*most)%2)
		if dice%4 < leaning {
			l = step(t, r, most, l, dice+1)
		} else {
			l = stepDown(t, r, l)
		}
		has(t, r, l...)
	}
}
