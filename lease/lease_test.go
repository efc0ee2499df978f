package lease

import (
	"cmp"
	"fmt"
	"iter"
	"math"
	"slices"
	"testing"

	"tenon/api"
)

const topKey = math.MaxUint64

// keys that are alike in some of their bits.
var anyKeys = []uint64{0, 1, 2, 255, 256, 1<<31 - 1, 1 << 31, 1<<32 - 1, 1 << 32, 1<<32 + 1, 1<<63 - 1, 1 << 63, 1<<63 + 1, topKey - 1, topKey}

func created(t *testing.T, period, misses int) *Leases {
	t.Helper()
	l, e := New(period, misses)
	if e != api.OK || l == nil {
		t.Fatalf("New(%d, %d) = %v, %v", period, misses, l, e)
	}
	return l
}

func join(t *testing.T, l *Leases, key uint64, want bool) {
	t.Helper()
	if is := l.Join(key); is != want {
		t.Fatalf("Join(%d) = %v", key, is)
	}
}

func ping(t *testing.T, l *Leases, key uint64) {
	t.Helper()
	if e := l.Ping(key); e != api.OK {
		t.Fatalf("Ping(%d) = %v", key, e)
	}
}

func leave(t *testing.T, l *Leases, key uint64) {
	t.Helper()
	if !l.Leave(key) {
		t.Fatalf("Leave(%d) = false", key)
	}
	out(t, l, key)
}

// in asks whether a key is in it, and for how long yet.
func in(t *testing.T, l *Leases, key uint64, want int) {
	t.Helper()
	if n, e := l.Left(key); n != want || e != api.OK {
		t.Fatalf("Left(%d) = %d, %v, not %d", key, n, e, want)
	}
}

// out asks all that tells that a key isn't in it; none of that changes anything.
func out(t *testing.T, l *Leases, key uint64) {
	t.Helper()
	before, now := entries(l.All()), l.Now()
	if n, e := l.Left(key); n != 0 || e != api.ErrNone {
		t.Fatalf("Left(%d) = %d, %v, not ErrNone", key, n, e)
	}
	if e := l.Ping(key); e != api.ErrNone {
		t.Fatalf("Ping(%d) = %v, not ErrNone", key, e)
	}
	if l.Leave(key) {
		t.Fatalf("Leave(%d) = true", key)
	}
	told(t, l, before...)
	is(t, l, now)
}

func is(t *testing.T, l *Leases, now int) {
	t.Helper()
	if n := l.Now(); n != now {
		t.Fatalf("Now() = %d, not %d", n, now)
	}
}

// tick asks who is over: those and no others, at once gone.
func tick(t *testing.T, l *Leases, over ...uint64) {
	t.Helper()
	now := l.Now()
	if x := l.Tick(); !slices.Equal(x, over) {
		t.Fatalf("Tick() behind %d tells %v, not %v", now, x, over)
	}
	is(t, l, now+1)
	for _, key := range over {
		out(t, l, key)
	}
}

// ticks are some at which nobody is over.
func ticks(t *testing.T, l *Leases, n int) {
	t.Helper()
	for range n {
		tick(t, l)
	}
}

func entries(all iter.Seq2[uint64, int]) []entry {
	var l []entry
	for key, at := range all {
		l = append(l, entry{key, at})
	}
	return l
}

func sortByKeys(l []entry) {
	slices.SortFunc(l, func(a, b entry) int { return cmp.Compare(a.key, b.key) })
}

func told(t *testing.T, l *Leases, want ...entry) {
	t.Helper()
	if x := entries(l.All()); !slices.Equal(x, want) {
		t.Fatalf("All() tells %v, not %v", x, want)
	}
}

func TestTheExample(t *testing.T) {
	l := created(t, 2, 2)
	join(t, l, 5, true)
	ticks(t, l, 3)
	in(t, l, 5, 1)
	tick(t, l, 5)
}

func TestNobodyIsInNewOnes(t *testing.T) {
	for _, period := range []int{1, 2, 999, 1000} {
		for _, misses := range []int{1, 2, 999, 1000} {
			l := created(t, period, misses)
			is(t, l, 0)
			told(t, l)
			for _, key := range anyKeys {
				out(t, l, key)
			}
		}
	}
}

func TestNewRefuses(t *testing.T) {
	wrong := []int{0, -1, 1001, 1002, -1000, -1001, 1 << 16, 1<<16 + 1, 1 << 31, 1 << 32, 1<<32 + 1, 1<<32 + 1000, 1 << 62, math.MaxInt, math.MinInt, math.MinInt + 1}
	right := []int{1, 2, 1000}
	for _, x := range wrong {
		for _, y := range slices.Concat(wrong, right) {
			for _, p := range [][2]int{{x, y}, {y, x}} {
				if l, e := New(p[0], p[1]); l != nil || e != api.ErrArg {
					t.Fatalf("New(%d, %d) = %v, %v, not ErrArg", p[0], p[1], l, e)
				}
			}
		}
	}
}

func TestTheTimeIsPeriodTimesMisses(t *testing.T) {
	for _, p := range [][2]int{{1, 1}, {1, 2}, {2, 1}, {2, 3}, {3, 2}, {7, 11}, {1, 1000}, {1000, 1}, {31, 37}} {
		l := created(t, p[0], p[1])
		join(t, l, 9, true)
		for left := p[0] * p[1]; left > 1; left-- {
			in(t, l, 9, left)
			tick(t, l)
		}
		in(t, l, 9, 1)
		tick(t, l, 9)
		is(t, l, p[0]*p[1])
	}
}

func TestTheGreatestTime(t *testing.T) {
	const time = 1000 * 1000
	l := created(t, 1000, 1000)
	join(t, l, topKey, true)
	in(t, l, topKey, time)
	for n := range time - 1 {
		if over := l.Tick(); len(over) != 0 {
			t.Fatal(n, over)
		}
	}
	in(t, l, topKey, 1)
	join(t, l, 0, true)
	told(t, l, entry{0, time - 1}, entry{topKey, 0})
	tick(t, l, topKey)
	in(t, l, 0, time-1)
	is(t, l, time)
}

func TestTheLeastTime(t *testing.T) {
	l := created(t, 1, 1)
	for n := range 5 {
		join(t, l, 4, true)
		ping(t, l, 4)
		join(t, l, 4, false)
		in(t, l, 4, 1)
		told(t, l, entry{4, n})
		tick(t, l, 4)
	}
}

func TestJoinTellsWhetherItIsNew(t *testing.T) {
	l := created(t, 3, 1)
	for _, key := range anyKeys {
		join(t, l, key, true)
		for range 3 {
			join(t, l, key, false)
		}
	}
	if n := len(entries(l.All())); n != len(anyKeys) {
		t.Fatal(n)
	}
}

func TestJoinIsHeardOf(t *testing.T) {
	l := created(t, 2, 2)
	join(t, l, 7, true)
	join(t, l, 8, true)
	ticks(t, l, 3)
	join(t, l, 7, false)
	told(t, l, entry{7, 3}, entry{8, 0})
	in(t, l, 7, 4)
	in(t, l, 8, 1)
	tick(t, l, 8)
	ticks(t, l, 2)
	tick(t, l, 7)
}

func TestPingIsHeardOf(t *testing.T) {
	l := created(t, 1, 3)
	join(t, l, 7, true)
	join(t, l, 8, true)
	for n := range 10 {
		ping(t, l, 7)
		ping(t, l, 7)
		in(t, l, 7, 3)
		if n == 2 {
			tick(t, l, 8)
		} else {
			tick(t, l)
		}
		in(t, l, 7, 2)
	}
	told(t, l, entry{7, 9})
	tick(t, l)
	tick(t, l, 7)
}

func TestPingDoesNotJoin(t *testing.T) {
	l := created(t, 1, 3)
	join(t, l, 7, true)
	for _, key := range anyKeys {
		if e := l.Ping(key); e != api.ErrNone {
			t.Fatalf("Ping(%d) = %v", key, e)
		}
	}
	told(t, l, entry{7, 0})
	tick(t, l)
	tick(t, l)
	tick(t, l, 7)
}

func TestLeave(t *testing.T) {
	l := created(t, 2, 1)
	for _, key := range anyKeys {
		join(t, l, key, true)
	}
	for i, key := range anyKeys {
		leave(t, l, key)
		for _, other := range anyKeys[i+1:] {
			in(t, l, other, 2)
		}
	}
	told(t, l)
	// Who left isn't over.
	ticks(t, l, 5)
}

func TestWhoLeftJoinsAnew(t *testing.T) {
	l := created(t, 3, 1)
	join(t, l, 6, true)
	ticks(t, l, 2)
	leave(t, l, 6)
	join(t, l, 6, true)
	in(t, l, 6, 3)
	told(t, l, entry{6, 2})
	ticks(t, l, 2)
	tick(t, l, 6)
}

func TestWhoIsOverJoinsAnew(t *testing.T) {
	l := created(t, 1, 2)
	for n := range 4 {
		join(t, l, 6, true)
		told(t, l, entry{6, 2 * n})
		tick(t, l)
		in(t, l, 6, 1)
		tick(t, l, 6)
		told(t, l)
	}
	ticks(t, l, 5)
}

func TestLeftChangesNothing(t *testing.T) {
	l := created(t, 5, 1)
	join(t, l, 6, true)
	for left := 5; left > 1; left-- {
		for range 4 {
			in(t, l, 6, left)
		}
		tick(t, l)
	}
	in(t, l, 6, 1)
	tick(t, l, 6)
}

func TestTickIsOneMoreWhoeverIsInIt(t *testing.T) {
	l := created(t, 1, 1)
	for now := range 100 {
		is(t, l, now)
		is(t, l, now)
		tick(t, l)
	}
	join(t, l, 1, true)
	told(t, l, entry{1, 100})
}

func TestTickTellsRising(t *testing.T) {
	for range 20 {
		l := created(t, 1, 1)
		for _, key := range []uint64{topKey, 3, 1 << 32, 0, 1 << 63, 2, 1<<63 - 1} {
			join(t, l, key, true)
		}
		tick(t, l, 0, 2, 3, 1<<32, 1<<63-1, 1<<63, topKey)
	}
}

func TestManyAreOverAtOnce(t *testing.T) {
	const n = 5000
	l := created(t, 2, 1)
	for i := range uint64(n) {
		// 7919 and 5000 have no divisor in common: each place once.
		join(t, l, i*7919%n, true)
	}
	tick(t, l)
	for key := uint64(0); key < n; key += 2 {
		ping(t, l, key)
	}
	var odd, even []uint64
	for key := uint64(0); key < n; key += 2 {
		even, odd = append(even, key), append(odd, key+1)
	}
	if over := l.Tick(); !slices.Equal(over, odd) {
		t.Fatal(len(over))
	}
	if over := l.Tick(); !slices.Equal(over, even) {
		t.Fatal(len(over))
	}
	told(t, l)
}

func TestEachIsOverInItsTime(t *testing.T) {
	l := created(t, 2, 2)
	for _, key := range []uint64{9, 8, 7} {
		join(t, l, key, true)
		tick(t, l)
	}
	join(t, l, 6, true)
	told(t, l, entry{6, 3}, entry{7, 2}, entry{8, 1}, entry{9, 0})
	tick(t, l, 9)
	tick(t, l, 8)
	tick(t, l, 7)
	tick(t, l, 6)
	ticks(t, l, 10)
}

func TestWhatTickToldIsNewMemory(t *testing.T) {
	l := created(t, 1, 1)
	join(t, l, 3, true)
	join(t, l, 4, true)
	first := l.Tick()
	join(t, l, 5, true)
	join(t, l, 6, true)
	second := l.Tick()
	if !slices.Equal(first, []uint64{3, 4}) || !slices.Equal(second, []uint64{5, 6}) {
		t.Fatal(first, second)
	}
	second[0], second[1] = 8, 9
	if !slices.Equal(first, []uint64{3, 4}) {
		t.Fatal(first)
	}
	told(t, l)
}

func TestLeasesDoNotSeeOneAnother(t *testing.T) {
	a, b := created(t, 1, 2), created(t, 1, 2)
	join(t, a, 5, true)
	join(t, b, 5, true)
	tick(t, a)
	is(t, b, 0)
	tick(t, a, 5)
	in(t, b, 5, 2)
	join(t, a, 6, true)
	out(t, b, 6)
	leave(t, b, 5)
	told(t, a, entry{6, 2})
	told(t, b)
}

func TestLeasesThatNewDidNotMake(t *testing.T) {
	for _, l := range []*Leases{nil, {}} {
		for _, key := range anyKeys {
			join(t, l, key, false)
			out(t, l, key)
		}
		for range 3 {
			if over := l.Tick(); len(over) != 0 {
				t.Fatal(over)
			}
			is(t, l, 0)
		}
		told(t, l)
	}
}

func TestAllGoesByRisingKeys(t *testing.T) {
	for range 20 {
		l := created(t, 1000, 1)
		var want []entry
		for i := range anyKeys {
			key := anyKeys[i*7%len(anyKeys)]
			join(t, l, key, true)
			want = append(want, entry{key, i})
			tick(t, l)
		}
		sortByKeys(want)
		told(t, l, want...)
	}
}

func TestAllStopsWhenItIsAskedTo(t *testing.T) {
	l := created(t, 3, 1)
	for key := range uint64(5) {
		join(t, l, key, true)
	}
	for stop := range 5 {
		n := 0
		for key := range l.All() {
			if key != uint64(n) {
				t.Fatal(key, n)
			}
			if n == stop {
				break
			}
			n++
		}
		if n != stop {
			t.Fatal(n, stop)
		}
	}
}

func TestAllTellsTheSameEachTime(t *testing.T) {
	l := created(t, 3, 1)
	for key := range uint64(4) {
		join(t, l, 9*key, true)
	}
	all := l.All()
	want := entries(all)
	pairs := 0
	for a, x := range all {
		place := 0
		for b, y := range all {
			if want[place] != (entry{b, y}) {
				t.Fatal(a, x, b, y)
			}
			place++
			pairs++
		}
	}
	if pairs != 16 || !slices.Equal(want, entries(all)) {
		t.Fatal(pairs, want)
	}
}

func TestAllBeginsWhenItIsGoneOver(t *testing.T) {
	l := created(t, 3, 1)
	all := l.All()
	join(t, l, 2, true)
	tick(t, l)
	join(t, l, 1, true)
	if x := entries(all); !slices.Equal(x, []entry{{1, 1}, {2, 0}}) {
		t.Fatal(x)
	}
	leave(t, l, 2)
	ping(t, l, 1)
	tick(t, l)
	ping(t, l, 1)
	if x := entries(all); !slices.Equal(x, []entry{{1, 2}}) {
		t.Fatal(x)
	}
}

func TestAllTellsWhatWasThereWhenItBegan(t *testing.T) {
	change := map[string]func(l *Leases, key uint64){
		"join":       func(l *Leases, key uint64) { l.Join(100 + key) },
		"join ahead": func(l *Leases, key uint64) { l.Join(3 * key) },
		"ping":       func(l *Leases, key uint64) { l.Tick(); l.Ping(30) },
		"leave":      func(l *Leases, key uint64) { l.Leave(30) },
		"leave all": func(l *Leases, key uint64) {
			for key := range l.All() {
				l.Leave(key)
			}
		},
		"be over": func(l *Leases, key uint64) {
			for range 1000 {
				l.Tick()
			}
		},
	}
	for name, do := range change {
		l := created(t, 1000, 1)
		for _, key := range []uint64{30, 10, 20} {
			join(t, l, key, true)
			tick(t, l)
		}
		var x []entry
		for key, at := range l.All() {
			do(l, key)
			x = append(x, entry{key, at})
		}
		if !slices.Equal(x, []entry{{10, 1}, {20, 2}, {30, 0}}) {
			t.Fatal(name, x)
		}
	}
}

func TestLeaveWhoIsGoneOver(t *testing.T) {
	l := created(t, 10, 1)
	for key := range uint64(100) {
		join(t, l, key, true)
	}
	n := 0
	for key := range l.All() {
		leave(t, l, key)
		n++
	}
	if n != 100 {
		t.Fatal(n)
	}
	told(t, l)
}

// plain does as the chapter's words say: a list of who is in it, each with the ticks since it was heard of.
type plain struct {
	time, now int
	in        []waiting
}

type waiting struct {
	key   uint64
	since int
}

func (p *plain) find(key uint64) int {
	return slices.IndexFunc(p.in, func(w waiting) bool { return w.key == key })
}

func (p *plain) tick() []uint64 {
	p.now++
	var over []uint64
	var stay []waiting
	for _, w := range p.in {
		w.since++
		if w.since == p.time {
			over = append(over, w.key)
		} else {
			stay = append(stay, w)
		}
	}
	p.in = stay
	slices.Sort(over)
	return over
}

func (p *plain) all() []entry {
	var l []entry
	for _, w := range p.in {
		l = append(l, entry{w.key, p.now - w.since})
	}
	sortByKeys(l)
	return l
}

// do is what a call answers, as a text.
func do(l *Leases, call int, key uint64) string {
	switch call {
	case 0:
		return fmt.Sprint("join ", l.Join(key))
	case 1:
		return fmt.Sprint("ping ", l.Ping(key))
	case 2:
		return fmt.Sprint("leave ", l.Leave(key))
	case 3:
		n, e := l.Left(key)
		return fmt.Sprint("left ", n, e)
	default:
		return fmt.Sprint("tick ", l.Tick())
	}
}

func (p *plain) do(call int, key uint64) string {
	at := p.find(key)
	switch call {
	case 0:
		if at < 0 {
			p.in = append(p.in, waiting{key, 0})
		} else {
			p.in[at].since = 0
		}
		return fmt.Sprint("join ", at < 0)
	case 1:
		if at < 0 {
			return fmt.Sprint("ping ", api.ErrNone)
		}
		p.in[at].since = 0
		return fmt.Sprint("ping ", api.OK)
	case 2:
		if at >= 0 {
			p.in = slices.Delete(p.in, at, at+1)
		}
		return fmt.Sprint("leave ", at >= 0)
	case 3:
		if at < 0 {
			return fmt.Sprint("left ", 0, api.ErrNone)
		}
		return fmt.Sprint("left ", p.time-p.in[at].since, api.OK)
	default:
		return fmt.Sprint("tick ", p.tick())
	}
}

// alike does the same call of both, and asks whether they are still the same.
func alike(t *testing.T, l *Leases, p *plain, call int, key uint64) {
	t.Helper()
	if a, b := do(l, call, key), p.do(call, key); a != b {
		t.Fatalf("of %d at %d: %s, not %s", key, p.now, a, b)
	}
	is(t, l, p.now)
	told(t, l, p.all()...)
}

func TestAllShortRowsOfCalls(t *testing.T) {
	// Calls of two keys, and ticks: a row is a number to the base of how many there are.
	kinds := [][2]int{{0, 0}, {0, 1}, {1, 0}, {1, 1}, {2, 0}, {2, 1}, {3, 0}, {4, 0}}
	for _, p := range [][2]int{{1, 1}, {1, 2}, {3, 1}} {
		for row := range 8 * 8 * 8 * 8 * 8 {
			l, m := created(t, p[0], p[1]), &plain{time: p[0] * p[1]}
			for range 5 {
				k := kinds[row%8]
				row /= 8
				alike(t, l, m, k[0], anyKeys[k[1]])
			}
		}
	}
}

func TestLongRowsOfCalls(t *testing.T) {
	seed := uint32(1)
	next := func(n int) int {
		seed = seed*1664525 + 1013904223
		return int(seed>>8) % n
	}
	for range 60 {
		period, misses := 1+next(4), 1+next(4)
		l, p := created(t, period, misses), &plain{time: period * misses}
		many := 1 + next(len(anyKeys))
		often := 5 + next(4) // the rest of the calls are ticks
		for range 1000 {
			alike(t, l, p, next(often), anyKeys[next(many)])
		}
	}
}

func TestTheSameCallsComeToTheSame(t *testing.T) {
	run := func() []string {
		l := created(t, 2, 3)
		seed := uint32(7)
		var x []string
		for range 2000 {
			seed = seed*1664525 + 1013904223
			x = append(x, do(l, int(seed>>8)%6, uint64(seed>>16)%40))
			x = append(x, fmt.Sprint(entries(l.All())))
		}
		return x
	}
	if !slices.Equal(run(), run()) {
		t.Fatal("the same calls, and another answer")
	}
}
