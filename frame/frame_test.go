package frame

import (
	"iter"
	"math"
	"math/big"
	"slices"
	"testing"

	"tenon/api"
	"tenon/code"
)

var (
	arg      = api.Instr{Op: api.CodeArg}
	load     = api.Instr{Op: api.CodeLoad}
	store    = api.Instr{Op: api.CodeStore}
	add      = api.Instr{Op: api.CodeAdd}
	neg      = api.Instr{Op: api.CodeNeg}
	giveBack = api.Instr{Op: api.CodeReturn}
)

var over = api.Event{Kind: api.EvFault, Code: api.ErrNone}

// ends are numbers at which a sum may wrap, and those about them.
var ends = []int64{0, 1, -1, 2, -2, 5, math.MaxInt32, math.MinInt32, 1 << 32, math.MaxInt64, math.MaxInt64 - 1, math.MinInt64, math.MinInt64 + 1}

func push(n int) api.Instr            { return api.Instr{Op: api.CodePush, A: n} }
func skip(n int) api.Instr            { return api.Instr{Op: api.CodeSkip, A: n} }
func call(slot, method int) api.Instr { return api.Instr{Op: api.CodeCall, A: slot, B: method} }
func put(slot int) api.Instr          { return api.Instr{Op: api.CodePut, A: slot} }
func drop(slot int) api.Instr         { return api.Instr{Op: api.CodeDrop, A: slot} }

func done(n int64) api.Event   { return api.Event{Kind: api.EvDone, N: n} }
func puts(slot int) api.Event  { return api.Event{Kind: api.EvPut, Slot: slot} }
func drops(slot int) api.Event { return api.Event{Kind: api.EvDrop, Slot: slot} }
func calls(slot, method int, n int64) api.Event {
	return api.Event{Kind: api.EvCall, Slot: slot, Method: method, N: n}
}

func row(l ...api.Instr) []api.Instr { return l }

func created(t *testing.T, l []api.Instr, arg int64) *Frame {
	t.Helper()
	f, e := New(l, arg)
	if e != api.OK || f == nil {
		t.Fatalf("New(%v, %d) = %v, %v", l, arg, f, e)
	}
	return f
}

func refused(t *testing.T, l []api.Instr, want api.Errno) {
	t.Helper()
	if f, e := New(l, 1); f != nil || e != want {
		t.Fatalf("New(%v) = %v, %v, not %v", l, f, e, want)
	}
}

// next lets f go on, and it must stop so.
func next(t *testing.T, f *Frame, result, value int64, want api.Event, behind int64) {
	t.Helper()
	if x, v := f.Next(result, value); x != want || v != behind {
		t.Fatalf("Next(%d, %d) = %+v, %d, not %+v, %d", result, value, x, v, want, behind)
	}
}

func numbers(s iter.Seq[int64]) []int64 {
	var l []int64
	for n := range s {
		l = append(l, n)
	}
	return l
}

// stands asks all that tells where f is.
func stands(t *testing.T, f *Frame, at int, want ...int64) {
	t.Helper()
	if n := f.At(); n != at {
		t.Fatalf("At() = %d, not %d", n, at)
	}
	if l := numbers(f.Stack()); !slices.Equal(l, want) {
		t.Fatalf("Stack tells %v, not %v", l, want)
	}
}

// isOver: whatever it is given, and it stays where it is.
func isOver(t *testing.T, f *Frame, at int) {
	t.Helper()
	for _, n := range ends {
		next(t, f, n, -n, over, -n)
		next(t, f, -n, n, over, n)
		stands(t, f, at)
	}
}

func TestExample(t *testing.T) {
	f := created(t, row(arg, load, add, store, load, giveBack), 5)
	stands(t, f, 0)
	next(t, f, 0, 2, done(7), 7)
	isOver(t, f, 5)
}

// P15.1

func TestNewIsAheadOfTheFirstOne(t *testing.T) {
	for _, l := range [][]api.Instr{row(arg, giveBack), row(put(0), load, giveBack), row(push(1), call(1, 1), giveBack)} {
		stands(t, created(t, l, 9), 0)
	}
}

func TestNewRefuses(t *testing.T) {
	refused(t, nil, api.ErrTooMany)
	refused(t, row(), api.ErrTooMany)
	refused(t, row(giveBack), api.ErrForm)
	refused(t, row(load), api.ErrForm)
	refused(t, row(add, giveBack), api.ErrForm)
	refused(t, row(api.Instr{}, giveBack), api.ErrForm)
	refused(t, row(api.Instr{Op: api.CodeReturn + 1}, giveBack), api.ErrForm)
	refused(t, row(load, load, giveBack), api.ErrForm)
	refused(t, row(load, giveBack, load, giveBack), api.ErrForm)
	refused(t, row(load, skip(1), load, giveBack), api.ErrForm)
	refused(t, row(load, skip(0), load, giveBack), api.ErrForm)
	refused(t, row(load, skip(math.MaxInt), load, giveBack), api.ErrForm)
	refused(t, row(load, call(0, api.MaxMethods), giveBack), api.ErrForm)
	refused(t, row(api.Instr{Op: api.CodeLoad, B: 1}, giveBack), api.ErrForm)
}

func TestNewDepth(t *testing.T) {
	deep := func(n int) []api.Instr {
		return slices.Concat(slices.Repeat(row(load), n), slices.Repeat(row(add), n-1), row(giveBack))
	}
	f := created(t, deep(api.MaxStack), 0)
	next(t, f, 0, 3, done(3*api.MaxStack), 3)
	refused(t, deep(api.MaxStack+1), api.ErrDeep)
}

func TestNewLength(t *testing.T) {
	long := func(n int) []api.Instr {
		return slices.Concat(row(load), slices.Repeat(row(neg), n-2), row(giveBack))
	}
	f := created(t, long(api.MaxCode), 0)
	next(t, f, 0, 3, done(3), 3)
	isOver(t, f, api.MaxCode-1)
	refused(t, long(api.MaxCode+1), api.ErrTooMany)
}

func TestNewSlots(t *testing.T) {
	for _, slot := range []int{0, 1, api.MaxSlots - 1, api.MaxSlots, -1, math.MaxInt, math.MinInt} {
		for _, l := range [][]api.Instr{row(put(slot), load, giveBack), row(drop(slot), load, giveBack), row(load, call(slot, 0), giveBack)} {
			if slot >= 0 && slot < api.MaxSlots {
				created(t, l, 0)
			} else {
				refused(t, l, api.ErrForm)
			}
		}
	}
}

func TestNewIsAsCheck(t *testing.T) {
	d := dice(1)
	met := map[api.Errno]int{}
	for range 20000 {
		l := d.row(1+d.below(8), api.MaxSlots+1)
		_, _, want := code.Check(l, api.MaxSlots)
		met[want]++
		f, e := New(l, 1)
		if e != want || (f == nil) != (want != api.OK) {
			t.Fatalf("New(%v) = %v, %v, not %v", l, f, e, want)
		}
	}
	if met[api.OK] < 100 || met[api.ErrForm] < 100 {
		t.Fatalf("too few of a kind: %v", met)
	}
}

func TestWhatIsHandedInIsNotKept(t *testing.T) {
	room := row(arg, neg, giveBack, add, add)
	given := slices.Clone(room)
	f := created(t, room[:3], 5)
	if !slices.Equal(room, given) {
		t.Fatalf("New turned %v into %v", given, room)
	}
	for i := range room {
		room[i] = put(3)
	}
	next(t, f, 0, 0, done(-5), 0)
	for _, x := range room {
		if x != put(3) {
			t.Fatalf("Next wrote %v", x)
		}
	}
}

// P15.2

func TestPush(t *testing.T) {
	for _, n := range []int{0, 1, -1, math.MaxInt32, math.MinInt32} {
		next(t, created(t, row(push(n), giveBack), 8), 9, 7, done(int64(n)), 7)
	}
}

func TestArg(t *testing.T) {
	for _, n := range ends {
		next(t, created(t, row(arg, giveBack), n), 9, 7, done(n), 7)
	}
}

func TestLoad(t *testing.T) {
	for _, n := range ends {
		next(t, created(t, row(load, giveBack), 8), 9, n, done(n), n)
	}
}

func TestStore(t *testing.T) {
	for _, n := range ends {
		next(t, created(t, row(arg, store, push(4), giveBack), n), 9, 7, done(4), n)
		next(t, created(t, row(arg, store, load, giveBack), n), 9, 7, done(n), n)
		next(t, created(t, row(load, push(3), store, giveBack), n), 9, n, done(n), 3)
		next(t, created(t, row(arg, store, push(1), store, load, giveBack), n), 9, 7, done(1), 1)
	}
}

// wrapped is n modulo 2^64, from -2^63 to 2^63 - 1.
func wrapped(n *big.Int) int64 {
	half := new(big.Int).Lsh(big.NewInt(1), 63)
	all := new(big.Int).Lsh(big.NewInt(1), 64)
	n = new(big.Int).Add(n, half)
	n.Mod(n, all)
	return n.Sub(n, half).Int64()
}

func plainSum(a, b int64) int64 { return wrapped(new(big.Int).Add(big.NewInt(a), big.NewInt(b))) }

func plainNeg(n int64) int64 { return wrapped(new(big.Int).Neg(big.NewInt(n))) }

func TestAdd(t *testing.T) {
	for _, a := range ends {
		for _, b := range ends {
			next(t, created(t, row(arg, load, add, giveBack), a), 9, b, done(plainSum(a, b)), b)
		}
	}
	next(t, created(t, row(arg, load, add, giveBack), math.MaxInt64), 0, 1, done(math.MinInt64), 1)
	next(t, created(t, row(arg, load, add, giveBack), math.MinInt64), 0, -1, done(math.MaxInt64), -1)
	next(t, created(t, row(push(1), push(10), push(100), add, store, giveBack), 0), 0, 0, done(1), 110)
}

func TestNeg(t *testing.T) {
	for _, n := range ends {
		next(t, created(t, row(arg, neg, giveBack), n), 9, 7, done(plainNeg(n)), 7)
	}
	next(t, created(t, row(arg, neg, giveBack), math.MinInt64), 0, 0, done(math.MinInt64), 0)
	next(t, created(t, row(push(1), push(10), neg, store, giveBack), 0), 0, 0, done(1), -10)
}

func TestSkip(t *testing.T) {
	for _, n := range ends {
		for passed := 1; passed <= 8; passed++ {
			// It passes over as many, and does the one behind them: each adds to what stands there.
			ones := slices.Repeat(row(push(1), add), 5)
			l := slices.Concat(row(push(0), arg, skip(2*passed)), ones, ones, row(giveBack))
			want := int64(10)
			if n == 0 {
				want -= int64(passed)
			}
			next(t, created(t, l, n), 9, 7, done(want), 7)
		}
	}
	// To the last one.
	next(t, created(t, row(load, load, skip(1), neg, giveBack), 0), 0, 0, done(0), 0)
	next(t, created(t, row(arg, load, skip(1), neg, giveBack), 6), 0, 0, done(6), 0)
	next(t, created(t, row(arg, load, skip(1), neg, giveBack), 6), 0, 1, done(-6), 1)
	// A skip that passes over a skip, and one at which another goes on.
	twice := row(push(0), arg, skip(6), load, skip(2), push(1), add, push(10), add, giveBack)
	next(t, created(t, twice, 0), 0, 0, done(0), 0)
	next(t, created(t, twice, 1), 0, 0, done(10), 0)
	next(t, created(t, twice, 1), 0, 1, done(11), 1)
	behind := row(push(0), arg, skip(2), push(1), add, load, skip(2), push(10), add, giveBack)
	next(t, created(t, behind, 0), 0, 0, done(0), 0)
	next(t, created(t, behind, 0), 0, 1, done(10), 1)
	next(t, created(t, behind, 1), 0, 0, done(1), 0)
	next(t, created(t, behind, 1), 0, 1, done(11), 1)
}

func TestSkipPassesOverStops(t *testing.T) {
	l := row(arg, skip(2), put(0), drop(1), put(2), load, giveBack)
	f := created(t, l, 0)
	next(t, f, 9, 7, puts(2), 7)
	stands(t, f, 5)
	f = created(t, l, 1)
	next(t, f, 9, 7, puts(0), 7)
	next(t, f, 9, 7, drops(1), 7)
	next(t, f, 9, 7, puts(2), 7)
	next(t, f, 9, 7, done(7), 7)
}

func TestCall(t *testing.T) {
	for slot := range api.MaxSlots {
		for method := range api.MaxMethods {
			for _, n := range ends {
				f := created(t, row(arg, call(slot, method), giveBack), n)
				next(t, f, 9, 7, calls(slot, method, n), 7)
				stands(t, f, 2)
				next(t, f, -n, 6, done(-n), 6)
				isOver(t, f, 2)
			}
		}
	}
}

func TestCallTakesTheTop(t *testing.T) {
	f := created(t, row(push(1), push(2), call(3, 4), add, giveBack), 0)
	next(t, f, 9, 7, calls(3, 4, 2), 7)
	stands(t, f, 3, 1)
	next(t, f, 100, 7, done(101), 7)
}

func TestResultCountsOnceBehindItsCall(t *testing.T) {
	f := created(t, row(put(1), arg, call(0, 0), put(2), call(0, 1), drop(3), giveBack), 5)
	next(t, f, 90, 0, puts(1), 0)
	stands(t, f, 1)
	next(t, f, 91, 0, calls(0, 0, 5), 0)
	stands(t, f, 3)
	next(t, f, 6, 0, puts(2), 0)
	stands(t, f, 4, 6)
	next(t, f, 92, 0, calls(0, 1, 6), 0)
	stands(t, f, 5)
	next(t, f, 7, 0, drops(3), 0)
	stands(t, f, 6, 7)
	next(t, f, 93, 0, done(7), 0)
	isOver(t, f, 6)
}

func TestCallBehindCall(t *testing.T) {
	f := created(t, row(arg, call(1, 0), call(2, 0), call(3, 0), giveBack), 5)
	next(t, f, 9, 0, calls(1, 0, 5), 0)
	next(t, f, 6, 0, calls(2, 0, 6), 0)
	next(t, f, 7, 0, calls(3, 0, 7), 0)
	next(t, f, 8, 0, done(8), 0)
}

func TestSkipThatPassesOverACall(t *testing.T) {
	f := created(t, row(arg, load, skip(1), call(1, 1), put(1), giveBack), 5)
	next(t, f, 9, 0, puts(1), 0)
	next(t, f, 9, 0, done(5), 0)
}

func TestSkipOfAResult(t *testing.T) {
	l := row(push(3), arg, call(0, 0), skip(1), neg, giveBack)
	f := created(t, l, 1)
	next(t, f, 9, 0, calls(0, 0, 1), 0)
	next(t, f, 0, 0, done(3), 0)
	f = created(t, l, 0)
	next(t, f, 9, 0, calls(0, 0, 0), 0)
	next(t, f, math.MinInt64, 0, done(-3), 0)
}

func TestPutAndDrop(t *testing.T) {
	for slot := range api.MaxSlots {
		f := created(t, row(push(4), put(slot), drop(slot), giveBack), 0)
		next(t, f, 9, 7, puts(slot), 7)
		stands(t, f, 2, 4)
		next(t, f, 9, 6, drops(slot), 6)
		stands(t, f, 3, 4)
		next(t, f, 9, 5, done(4), 5)
	}
}

func TestValueIsThatWithWhichItGoesOn(t *testing.T) {
	f := created(t, row(push(1), store, put(0), load, push(2), store, call(0, 0), load, add, giveBack), 0)
	next(t, f, 0, 50, puts(0), 1)
	next(t, f, 0, 60, calls(0, 0, 60), 2)
	next(t, f, 100, 70, done(170), 70)
	isOver(t, f, 9)
}

func TestOver(t *testing.T) {
	f := created(t, row(load, giveBack), 0)
	next(t, f, 0, 3, done(3), 3)
	isOver(t, f, 1)
	isOver(t, nil, 0)
	isOver(t, new(Frame), 0)
}

func TestFramesOfOneRow(t *testing.T) {
	l := row(arg, call(0, 0), load, add, giveBack)
	a, b := created(t, l, 1), created(t, l, 2)
	next(t, a, 0, 5, calls(0, 0, 1), 5)
	next(t, b, 0, 6, calls(0, 0, 2), 6)
	next(t, a, 10, 5, done(15), 5)
	next(t, b, 20, 6, done(26), 6)
}

// P15.3

func TestStackFromTheLowestOn(t *testing.T) {
	var l []api.Instr
	var want []int64
	for i := range api.MaxStack {
		l = append(l, push(10-i), put(i))
	}
	l = append(l, slices.Repeat(row(store), api.MaxStack-1)...)
	f := created(t, append(l, giveBack), 0)
	for i := range api.MaxStack {
		next(t, f, 0, 0, puts(i), 0)
		want = append(want, int64(10-i))
		stands(t, f, 2*i+2, want...)
	}
	next(t, f, 0, 0, done(10), 9)
	isOver(t, f, 3*api.MaxStack-1)
}

func TestStackIsToldEachTime(t *testing.T) {
	f := created(t, row(push(1), push(2), push(3), put(0), add, put(1), add, giveBack), 0)
	s := f.Stack()
	if l := numbers(s); l != nil {
		t.Fatalf("Stack tells %v ahead of the first one", l)
	}
	next(t, f, 0, 0, puts(0), 0)
	for range 2 {
		if l := numbers(s); !slices.Equal(l, []int64{1, 2, 3}) {
			t.Fatalf("Stack tells %v", l)
		}
	}
	next(t, f, 0, 0, puts(1), 0)
	if l := numbers(s); !slices.Equal(l, []int64{1, 5}) {
		t.Fatalf("Stack tells %v", l)
	}
	next(t, f, 0, 0, done(6), 0)
	if l := numbers(s); l != nil {
		t.Fatalf("Stack of one that is over tells %v", l)
	}
}

func TestStackStops(t *testing.T) {
	f := created(t, row(push(1), push(2), push(3), put(0), add, add, giveBack), 0)
	next(t, f, 0, 0, puts(0), 0)
	for most := 1; most <= 3; most++ {
		var l []int64
		for n := range f.Stack() {
			if l = append(l, n); len(l) == most {
				break
			}
		}
		if !slices.Equal(l, []int64{1, 2, 3}[:most]) {
			t.Fatalf("Stack tells %v up to %d", l, most)
		}
	}
	pairs := 0
	for a := range f.Stack() {
		for b := range f.Stack() {
			pairs += int(10*a + b)
		}
	}
	if pairs != 3*10*6+3*6 {
		t.Fatalf("one within the other: %d", pairs)
	}
	stands(t, f, 4, 1, 2, 3)
}

func TestStackIsAsItWasWhenItBegan(t *testing.T) {
	f := created(t, row(push(1), push(2), push(3), put(0), add, push(7), push(8), put(1), store, store, store, giveBack), 0)
	next(t, f, 0, 0, puts(0), 0)
	var l []int64
	for n := range f.Stack() {
		l = append(l, n)
		if n == 1 {
			next(t, f, 0, 0, puts(1), 0)
			stands(t, f, 8, 1, 5, 7, 8)
		}
	}
	if !slices.Equal(l, []int64{1, 2, 3}) {
		t.Fatalf("Stack tells %v", l)
	}
	l = nil
	for n := range f.Stack() {
		if l = append(l, n); n == 1 {
			next(t, f, 0, 0, done(1), 5)
		}
	}
	if !slices.Equal(l, []int64{1, 5, 7, 8}) {
		t.Fatalf("Stack tells %v", l)
	}
}

func TestStopsAtMostAsOftenAsItHasInstructions(t *testing.T) {
	l := slices.Concat(row(load), slices.Repeat(row(put(1)), api.MaxCode-2), row(giveBack))
	f := created(t, l, 0)
	for range api.MaxCode - 2 {
		next(t, f, 0, 4, puts(1), 4)
	}
	next(t, f, 0, 5, done(4), 5)
	isOver(t, f, api.MaxCode-1)
}

// Long rows of calls, against a plain model.

type dice uint32

func (d *dice) below(n int) int {
	*d = *d*1664525 + 1013904223
	return int(*d>>8) % n
}

func (d *dice) number() int64 {
	switch d.below(3) {
	case 0:
		return ends[d.below(len(ends))]
	case 1:
		return 0
	}
	return int64(d.below(20) - 10)
}

// instr is one that may stand at this height.
func (d *dice) instr(height, slots int) api.Instr {
	switch x := d.below(14); {
	case x == 0 && height > 1:
		return add
	case x <= 1 && height > 1:
		return store
	case x <= 4 && height > 1:
		return skip(1 + d.below(4))
	case x <= 6 && height > 0:
		return call(d.below(slots), d.below(api.MaxMethods))
	case x == 7 && height > 0:
		return neg
	case x <= 9:
		return put(d.below(slots))
	case x == 10:
		return drop(d.below(slots))
	case height >= api.MaxStack:
		return neg
	case x == 11:
		return push(int(int32(ends[d.below(len(ends))])))
	case x == 12:
		return arg
	}
	return load
}

// row is one that Check may find right: most of those without a skip are.
func (d *dice) row(n, slots int) []api.Instr {
	var l []api.Instr
	height := 0
	for range n {
		x := d.instr(height, slots)
		l = append(l, x)
		switch x.Op {
		case api.CodePush, api.CodeArg, api.CodeLoad:
			height++
		case api.CodeStore, api.CodeAdd, api.CodeSkip:
			height--
		}
	}
	for ; height > 1; height-- {
		l = append(l, add)
	}
	if height == 0 {
		l = append(l, load)
	}
	return append(l, giveBack)
}

// plain is a method at work by the chapter's words: what is done with it so far is gone through anew each time.
type plain struct {
	l       []api.Instr
	arg     int64
	results []int64
	values  []int64
}

func (p *plain) next(result, value int64) (x api.Event, v int64, at int, stack []int64) {
	p.results, p.values = append(p.results, result), append(p.values, value)
	turn, v := 0, p.values[0]
	pop := func() int64 {
		n := stack[len(stack)-1]
		stack = stack[:len(stack)-1]
		return n
	}
	for at = 0; ; {
		i := p.l[at]
		at++
		x = api.Event{}
		switch i.Op {
		case api.CodePush:
			stack = append(stack, int64(i.A))
		case api.CodeArg:
			stack = append(stack, p.arg)
		case api.CodeLoad:
			stack = append(stack, v)
		case api.CodeStore:
			v = pop()
		case api.CodeAdd:
			stack = append(stack, plainSum(pop(), pop()))
		case api.CodeNeg:
			stack = append(stack, plainNeg(pop()))
		case api.CodeSkip:
			if pop() == 0 {
				at += i.A
			}
		case api.CodeCall:
			x = calls(i.A, i.B, pop())
		case api.CodePut:
			x = puts(i.A)
		case api.CodeDrop:
			x = drops(i.A)
		case api.CodeReturn:
			return done(pop()), v, at - 1, stack
		}
		if x.Kind == 0 {
			continue
		}
		if turn++; turn == len(p.values) {
			return x, v, at, stack
		}
		v = p.values[turn]
		if i.Op == api.CodeCall {
			stack = append(stack, p.results[turn])
		}
	}
}

// same lets f and its plain fellow go on till they are over, and answers how often they stopped.
func same(t *testing.T, d *dice, f *Frame, p *plain) int {
	t.Helper()
	var heights []int
	for _, h := range code.Heights(p.l) {
		heights = append(heights, h)
	}
	for stops := 1; ; stops++ {
		result, value := d.number(), d.number()
		want, behind, at, stack := p.next(result, value)
		next(t, f, result, value, want, behind)
		stands(t, f, at, stack...)
		if want.Kind == api.EvDone {
			isOver(t, f, at)
			return stops
		}
		height := len(stack)
		if want.Kind == api.EvCall {
			height++
		}
		if heights[at] != height {
			t.Fatalf("%v: the height of %d is %d, not %d", p.l, at, heights[at], height)
		}
	}
}

func TestAnyRows(t *testing.T) {
	d := dice(7)
	right, often := 0, map[int]bool{}
	for range 40000 {
		l := d.row(1+d.below(14), api.MaxSlots)
		if _, _, e := code.Check(l, api.MaxSlots); e != api.OK {
			continue
		}
		right++
		n := d.number()
		stops := same(t, &d, created(t, l, n), &plain{l: l, arg: n})
		if stops > len(l) {
			t.Fatalf("%v stopped %d times", l, stops)
		}
		often[stops] = true
	}
	if right < 2000 || len(often) < 8 {
		t.Fatalf("only %d rows, %d stops", right, len(often))
	}
}

// TestAllShortRows: each row of few instructions of few kinds that is right, with few numbers.
func TestAllShortRows(t *testing.T) {
	kinds := row(push(0), arg, load, store, add, neg, skip(1), skip(2), call(1, 2), put(3), giveBack)
	d := dice(3)
	right := 0
	var grow func(l []api.Instr)
	grow = func(l []api.Instr) {
		if _, _, e := code.Check(l, api.MaxSlots); e == api.OK {
			right++
			for _, n := range []int64{0, 1} {
				same(t, &d, created(t, l, n), &plain{l: l, arg: n})
			}
			return
		}
		if len(l) == 5 {
			return
		}
		for _, x := range kinds {
			grow(append(slices.Clone(l), x))
		}
	}
	grow(nil)
	if right < 400 {
		t.Fatalf("only %d rows", right)
	}
}
