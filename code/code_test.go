package code

import (
	"math"
	"slices"
	"testing"

	"tenon/api"
)

// Instructions, short.
var (
	arg    = api.Instr{Op: api.CodeArg}
	load   = api.Instr{Op: api.CodeLoad}
	store  = api.Instr{Op: api.CodeStore}
	add    = api.Instr{Op: api.CodeAdd}
	neg    = api.Instr{Op: api.CodeNeg}
	put    = api.Instr{Op: api.CodePut}
	drop   = api.Instr{Op: api.CodeDrop}
	call   = api.Instr{Op: api.CodeCall}
	finish = api.Instr{Op: api.CodeReturn}
)

func push(n int) api.Instr { return api.Instr{Op: api.CodePush, A: n} }

func skip(n int) api.Instr { return api.Instr{Op: api.CodeSkip, A: n} }

// join makes one row of instructions and rows of them.
func join(parts ...any) []api.Instr {
	var l []api.Instr
	for _, p := range parts {
		switch x := p.(type) {
		case api.Instr:
			l = append(l, x)
		case []api.Instr:
			l = append(l, x...)
		}
	}
	return l
}

func times(n int, l ...api.Instr) []api.Instr {
	return slices.Repeat(l, n)
}

func right(t *testing.T, l []api.Instr, slots, want int) {
	t.Helper()
	if most, at, e := Check(l, slots); most != want || at != 0 || e != api.OK {
		t.Errorf("Check(%v, %d) = %d, %d, %d, not %d", l, slots, most, at, e, want)
	}
}

func wrong(t *testing.T, l []api.Instr, slots, wantAt int, want api.Errno) {
	t.Helper()
	if most, at, e := Check(l, slots); most != 0 || at != wantAt || e != want {
		t.Errorf("Check(%v, %d) = %d, %d, %d, not 0, %d, %d", l, slots, most, at, e, wantAt, want)
	}
}

// told goes over the heights, and asks that the places rise from 0 on.
func told(t *testing.T, l []api.Instr) []int {
	t.Helper()
	var heights []int
	for i, h := range Heights(l) {
		if i != len(heights) {
			t.Errorf("Heights(%v): place %d is told as %d", l, len(heights), i)
		}
		heights = append(heights, h)
	}
	return heights
}

func tells(t *testing.T, l []api.Instr, want ...int) {
	t.Helper()
	if got := told(t, l); !slices.Equal(got, want) {
		t.Errorf("Heights(%v): %v, not %v", l, got, want)
	}
}

// P9.1

func TestExamples(t *testing.T) {
	right(t, join(arg, load, add, finish), 0, 2)
	wrong(t, join(load, skip(1), finish), 0, 1, api.ErrForm)
	wrong(t, join(load, skip(1), load, finish), 0, 3, api.ErrForm)
	wrong(t, join(load, skip(1), load, finish), api.MaxSlots, 3, api.ErrForm)
}

func TestHowManyThereAre(t *testing.T) {
	wrong(t, nil, 0, 0, api.ErrTooMany)
	wrong(t, []api.Instr{}, api.MaxSlots, 0, api.ErrTooMany)
	for n := 1; n <= api.MaxCode-2; n++ {
		right(t, join(load, times(n, neg), finish), 0, 1)
	}
	for _, n := range []int{api.MaxCode - 1, api.MaxCode, 254, 255, 256, 1000000} {
		wrong(t, join(load, times(n, neg), finish), 0, 0, api.ErrTooMany)
	}
	// That there are too many is told ahead of all that is wrong with one.
	wrong(t, make([]api.Instr, api.MaxCode), 0, 0, api.ErrForm)
	wrong(t, make([]api.Instr, api.MaxCode+1), 0, 0, api.ErrTooMany)
	wrong(t, join(times(api.MaxCode, load), finish), 0, 0, api.ErrTooMany)
	// Nor does one count behind the first return.
	wrong(t, join(load, finish, times(api.MaxCode-1, neg)), 0, 0, api.ErrTooMany)
}

func TestGreatestHeight(t *testing.T) {
	for n := 1; n <= api.MaxStack; n++ {
		right(t, join(times(n, load), times(n-1, add), finish), 0, n)
		right(t, join(times(n, push(0)), times(n-1, store), finish), 0, n)
		right(t, join(load, times(n-1, arg, store), finish), 0, min(n, 2))
		// The greatest one isn't the last one, nor the first one.
		right(t, join(load, times(n-1, load), times(n-1, store), neg, neg, finish), 0, n)
	}
	right(t, join(arg, finish), 0, 1)
	right(t, join(load, skip(1), put, load, finish), 1, 1)
	// It may be where only a skip leads, or only who doesn't skip.
	right(t, join(load, load, skip(2), neg, finish, load, load, add, add, finish), 0, 3)
	right(t, join(load, load, skip(5), load, load, add, add, finish, finish), 0, 3)
	// A call takes one ahead of laying one.
	right(t, join(times(api.MaxStack, load), call, neg, times(api.MaxStack-1, add), finish), 1, api.MaxStack)
}

func TestTooDeep(t *testing.T) {
	for _, x := range []api.Instr{push(1), arg, load} {
		for n := api.MaxStack + 1; n < api.MaxCode; n++ {
			wrong(t, join(times(n, x), finish), 0, api.MaxStack, api.ErrDeep)
		}
		wrong(t, join(times(api.MaxStack, load), put, neg, x, neg, finish), 1, api.MaxStack+2, api.ErrDeep)
		// ErrDeep is told ahead of going on behind the last one, and behind operands that may not be.
		wrong(t, times(api.MaxStack+1, x), 0, api.MaxStack, api.ErrDeep)
		y := x
		y.B = 1
		wrong(t, join(times(api.MaxStack, x), y), 0, api.MaxStack, api.ErrForm)
		// So it is behind two unlike heights, one of which is too great.
		wrong(t, join(load, skip(api.MaxStack), times(api.MaxStack, load), x, finish), 0, api.MaxStack+2, api.ErrForm)
	}
	wrong(t, join(times(api.MaxStack, load), push(1<<31), finish), 0, api.MaxStack, api.ErrForm)
	wrong(t, join(times(api.MaxStack, load), finish), 0, api.MaxStack, api.ErrForm)
}

// wildNumbers are those that hardly any operand may be, some of which have a right lowest byte or half.
var wildNumbers = []int{math.MinInt, math.MinInt + 1, -1 << 33, -1<<32 + 1, -1 << 32, math.MinInt32 - 1, math.MinInt32, -256, -9, -8, -2, -1, 0, 1, 2, 3, 7, 8, 9, 11, 12, 255, 256, 257, 1 << 16, math.MaxInt32, 1 << 31, math.MaxUint32, 1 << 32, 1<<32 + 1, 1 << 33, math.MaxInt - 1, math.MaxInt}

func TestOps(t *testing.T) {
	for _, op := range append(wildNumbers, 4, 5, 6, 10) {
		if 1 <= op && op <= 11 {
			continue
		}
		x := api.Instr{Op: op}
		wrong(t, join(x, load, finish), api.MaxSlots, 0, api.ErrForm)
		wrong(t, join(load, x, finish), api.MaxSlots, 1, api.ErrForm)
		wrong(t, join(load, finish, x), api.MaxSlots, 2, api.ErrForm)
		for _, n := range wildNumbers {
			wrong(t, join(load, api.Instr{Op: op, A: n, B: n}, finish), api.MaxSlots, 1, api.ErrForm)
		}
	}
}

// asked checks x, behind two numbers and ahead of what makes one of them again.
func asked(t *testing.T, x api.Instr, slots int, may bool) {
	t.Helper()
	l := join(load, load, x)
	if x.Op == api.CodeReturn {
		l = join(load, x)
	}
	at := len(l) - 1
	switch x.Op {
	case api.CodePush, api.CodeArg, api.CodeLoad:
		l = join(l, add, add, finish)
	case api.CodeNeg, api.CodeCall, api.CodePut, api.CodeDrop:
		l = join(l, add, finish)
	case api.CodeStore, api.CodeAdd:
		l = join(l, finish)
	case api.CodeSkip:
		l = join(l, times(api.MaxCode-4, neg), finish)
	}
	most, got, e := Check(l, slots)
	if may && e != api.OK {
		t.Errorf("%v with %d slots: %d at %d", x, slots, e, got)
	}
	if !may && (most != 0 || got != at || e != api.ErrForm) {
		t.Errorf("%v with %d slots: %d, %d at %d, not ErrForm at %d", x, slots, most, e, got, at)
	}
}

func TestOperandsThatAreNotNamed(t *testing.T) {
	for _, n := range wildNumbers {
		for _, op := range []int{api.CodeArg, api.CodeLoad, api.CodeStore, api.CodeAdd, api.CodeNeg, api.CodeReturn} {
			asked(t, api.Instr{Op: op, A: n}, api.MaxSlots, n == 0)
			asked(t, api.Instr{Op: op, B: n}, api.MaxSlots, n == 0)
			asked(t, api.Instr{Op: op, A: n, B: n}, api.MaxSlots, n == 0)
		}
		for _, op := range []int{api.CodePush, api.CodeSkip, api.CodePut, api.CodeDrop} {
			asked(t, api.Instr{Op: op, A: 1, B: n}, api.MaxSlots, n == 0)
		}
	}
}

func TestNumberOfPush(t *testing.T) {
	for _, n := range wildNumbers {
		asked(t, push(n), 0, -1<<31 <= n && n <= 1<<31-1)
	}
}

func TestDistanceOfSkip(t *testing.T) {
	for n := -40; n < 40; n++ {
		// There are twenty-eight numbers that are turned, and a return behind them.
		asked(t, skip(n), 0, 1 <= n && n <= api.MaxCode-4)
	}
	for _, n := range wildNumbers {
		asked(t, skip(n), 0, 1 <= n && n <= api.MaxCode-4)
	}
	// At each place, as far as the last one, and one further.
	for at := 2; at < api.MaxCode-1; at++ {
		for n := 1; at+n < api.MaxCode+2; n++ {
			l := join(load, load, times(at-2, neg), skip(n), times(api.MaxCode-at-2, neg), finish)
			if at+1+n < api.MaxCode {
				right(t, l, 0, 2)
			} else {
				wrong(t, l, 0, at, api.ErrForm)
			}
		}
	}
}

func TestSlots(t *testing.T) {
	for _, op := range []int{api.CodeCall, api.CodePut, api.CodeDrop} {
		for slots := range api.MaxSlots + 1 {
			for _, n := range wildNumbers {
				asked(t, api.Instr{Op: op, A: n}, slots, 0 <= n && n < slots)
			}
			for n := range api.MaxSlots + 2 {
				asked(t, api.Instr{Op: op, A: n}, slots, n < slots)
			}
		}
		// A class of fewer slots than none has none, too.
		for _, slots := range []int{math.MinInt, math.MinInt + 1, -1 << 32, -2, -1} {
			for _, n := range wildNumbers {
				asked(t, api.Instr{Op: op, A: n}, slots, false)
			}
		}
		asked(t, api.Instr{Op: op, A: math.MaxInt - 1}, math.MaxInt, true)
		asked(t, api.Instr{Op: op, A: math.MaxInt}, math.MaxInt, false)
	}
	// What names no slot hangs on no slots.
	for _, slots := range wildNumbers {
		right(t, join(arg, load, add, finish), slots, 2)
		wrong(t, join(arg, load, finish), slots, 2, api.ErrForm)
	}
}

func TestMethodOfCall(t *testing.T) {
	for _, n := range wildNumbers {
		for a := range 3 {
			asked(t, api.Instr{Op: api.CodeCall, A: a, B: n}, 2, 0 <= n && n < api.MaxMethods && a < 2)
		}
	}
	for n := range api.MaxMethods {
		asked(t, api.Instr{Op: api.CodeCall, A: 1, B: n}, 2, true)
	}
}

func TestNothingGoesOnAtIt(t *testing.T) {
	wrong(t, join(load, finish, load, finish), 0, 2, api.ErrForm)
	wrong(t, join(load, finish, finish), 0, 2, api.ErrForm)
	for _, x := range []api.Instr{push(1), arg, load, store, add, neg, skip(1), call, put, drop} {
		wrong(t, join(load, finish, x, load, finish), api.MaxSlots, 2, api.ErrForm)
	}
	// A skip leads over it, or short of it, or to it.
	wrong(t, join(load, load, skip(2), finish, load, finish), 0, 4, api.ErrForm)
	wrong(t, join(load, load, skip(1), finish, finish, finish), 0, 5, api.ErrForm)
	right(t, join(load, load, skip(1), finish, finish), 0, 2)
	right(t, join(load, load, skip(2), neg, finish, neg, finish), 0, 2)
	right(t, join(times(3, load), skip(4), skip(1), finish, neg, finish, drop, add, finish), 1, 3)
}

func TestUnlikeHeights(t *testing.T) {
	wrong(t, join(load, load, skip(1), load, finish), 0, 4, api.ErrForm)
	wrong(t, join(load, load, skip(1), store, load, finish), 0, 4, api.ErrForm)
	wrong(t, join(load, load, skip(2), load, neg, store, finish), 0, 5, api.ErrForm)
	right(t, join(load, load, skip(2), load, store, finish), 0, 2)
	// Each of both would do alone.
	wrong(t, join(times(4, load), skip(1), load, add, add, finish), 0, 6, api.ErrForm)
	// Three go on at one: two skips, and the one ahead of it.
	three := func(first, second api.Instr) []api.Instr {
		return join(times(3, load), skip(3), first, skip(1), second, add, finish)
	}
	right(t, three(load, neg), 0, 3)
	wrong(t, three(neg, neg), 0, 7, api.ErrForm)
	wrong(t, three(neg, load), 0, 7, api.ErrForm)
	wrong(t, three(load, load), 0, 7, api.ErrForm)
}

func TestTakesMoreThanThereIs(t *testing.T) {
	for _, x := range []api.Instr{store, neg, skip(1), call, finish} {
		wrong(t, join(x, load, finish), 1, 0, api.ErrForm)
		wrong(t, join(load, store, x, load, finish), 1, 2, api.ErrForm)
		wrong(t, join(load, load, add, store, x, load, finish), 1, 4, api.ErrForm)
	}
	wrong(t, join(add, finish), 0, 0, api.ErrForm)
	wrong(t, join(load, add, finish), 0, 1, api.ErrForm)
	wrong(t, join(load, add, load, finish), 0, 1, api.ErrForm)
	wrong(t, join(load, load, skip(1), add, finish), 0, 3, api.ErrForm)
	right(t, join(load, load, add, finish), 0, 2)
	right(t, join(put, drop, put, load, finish), 1, 1)
}

func TestReturn(t *testing.T) {
	wrong(t, join(finish), 0, 0, api.ErrForm)
	wrong(t, join(finish, load, finish), 0, 0, api.ErrForm)
	right(t, join(load, finish), 0, 1)
	for n := 2; n <= api.MaxStack; n++ {
		wrong(t, join(times(n, load), finish), 0, n, api.ErrForm)
		wrong(t, join(times(n, load), finish, load, finish), 0, n, api.ErrForm)
	}
	wrong(t, join(load, load, skip(2), neg, finish, load, finish), 0, 6, api.ErrForm)
}

func TestGoesOnBehindTheLastOne(t *testing.T) {
	for _, x := range []api.Instr{push(1), arg, load, put, drop} {
		wrong(t, join(x), 1, 0, api.ErrForm)
		wrong(t, join(load, x), 1, 1, api.ErrForm)
	}
	for _, x := range []api.Instr{store, neg, call, skip(1), skip(math.MaxInt), skip(math.MaxInt - 1)} {
		wrong(t, join(load, x), 1, 1, api.ErrForm)
		wrong(t, join(times(api.MaxCode-2, put), load, x), 1, api.MaxCode-1, api.ErrForm)
	}
	wrong(t, join(load, load, add), 1, 2, api.ErrForm)
	wrong(t, join(times(3, load), skip(1), neg, add), 1, 5, api.ErrForm)
	// Who may go on behind the last one may go on at others as well.
	wrong(t, join(load, load, skip(2), neg, finish), 0, 2, api.ErrForm)
	wrong(t, join(load, load, skip(math.MaxInt), neg, finish), 0, 2, api.ErrForm)
}

func TestFirstOneThatIsWrong(t *testing.T) {
	bad := api.Instr{Op: 12}
	// What is wrong behind it isn't told, though its reason is named ahead.
	wrong(t, join(load, skip(9), bad, finish), 0, 1, api.ErrForm)
	wrong(t, join(times(api.MaxStack+1, load), bad, finish), 0, api.MaxStack, api.ErrDeep)
	wrong(t, join(load, bad, times(api.MaxStack+1, load)), 0, 1, api.ErrForm)
	wrong(t, join(load, finish, times(api.MaxStack+1, load)), 0, 2, api.ErrForm)
	wrong(t, join(add, push(1<<31), bad), 0, 0, api.ErrForm)
	// One that is wrong because two go on at it is told ahead of those behind it.
	wrong(t, join(load, skip(1), load, put, bad), 0, 3, api.ErrForm)
	// The next one has two heights, but the skip itself leads too far.
	wrong(t, join(times(3, load), skip(1), load, skip(9), add, finish), 0, 5, api.ErrForm)
	wrong(t, join(times(3, load), skip(2), load, skip(9), add, finish), 0, 5, api.ErrForm)
}

// P9.2

func TestHeights(t *testing.T) {
	tells(t, join(arg, load, add, finish), 0, 1, 2, 1)
	tells(t, join(arg, finish), 0, 1)
	tells(t, join(arg, skip(2), push(1), store, load, call, put, drop, finish), 0, 1, 0, 1, 0, 1, 1, 1, 1)
	tells(t, join(load, load, skip(2), neg, finish, neg, finish), 0, 1, 2, 1, 1, 1, 1)
	tells(t, join(times(8, load), times(7, add), finish), 0, 1, 2, 3, 4, 5, 6, 7, 8, 7, 6, 5, 4, 3, 2, 1)
	for n := 1; n <= api.MaxCode-2; n++ {
		tells(t, join(load, times(n, neg), finish), append([]int{0}, slices.Repeat([]int{1}, n+1)...)...)
	}
}

func TestHeightsUpToWhatIsWrong(t *testing.T) {
	tells(t, nil)
	tells(t, []api.Instr{})
	tells(t, make([]api.Instr, 5))
	tells(t, join(finish))
	tells(t, join(load))
	tells(t, join(load, load, add), 0, 1)
	tells(t, join(load, finish, load, finish), 0, 1)
	tells(t, join(load, skip(1), finish), 0)
	tells(t, join(load, skip(1), load, finish), 0, 1, 0)
	tells(t, join(times(9, load), finish), 0, 1, 2, 3, 4, 5, 6, 7)
	tells(t, join(load, push(1<<31), finish), 0)
	// With too many none is right.
	tells(t, join(load, times(api.MaxCode-1, neg), finish))
	tells(t, join(load, times(1000000, neg), finish))
	// There are as many slots as there may be.
	tells(t, join(load, api.Instr{Op: api.CodeCall, A: 7, B: 7}, api.Instr{Op: api.CodePut, A: 7}, api.Instr{Op: api.CodeDrop, A: 7}, finish), 0, 1, 1, 1, 1)
	for _, op := range []int{api.CodeCall, api.CodePut, api.CodeDrop} {
		tells(t, join(load, api.Instr{Op: op, A: 8}, finish), 0)
		tells(t, join(load, api.Instr{Op: op, A: -1}, finish), 0)
	}
}

func TestHeightsAreToldEachTime(t *testing.T) {
	s := Heights(join(arg, load, add, finish))
	want := []int{0, 1, 2, 1}
	for stop := range 6 {
		var got []int
		for _, h := range s {
			if len(got) == stop {
				break
			}
			got = append(got, h)
		}
		if n := min(stop, len(want)); !slices.Equal(got, want[:n]) {
			t.Error(stop, got)
		}
	}
	for i, h := range s {
		for j, k := range s {
			if h != want[i] || k != want[j] {
				t.Error(i, h, j, k)
			}
		}
	}
	// It stops when it is asked to.
	calls := 0
	s(func(int, int) bool { calls++; return calls < 2 })
	if calls != 2 {
		t.Error(calls)
	}
}

// P9.3

func TestNames(t *testing.T) {
	for op, want := range map[int]string{
		api.CodePush: "push", api.CodeArg: "arg", api.CodeLoad: "load", api.CodeStore: "store",
		api.CodeAdd: "add", api.CodeNeg: "neg", api.CodeSkip: "skip", api.CodeCall: "call",
		api.CodePut: "put", api.CodeDrop: "drop", api.CodeReturn: "return",
	} {
		if got := Names(op); got != want {
			t.Errorf("Names(%d) = %q, not %q", op, got, want)
		}
	}
	for _, op := range append(wildNumbers, 13, 24, 50, 51, 52, 53, 54) {
		if got := Names(op); got != "" && (op < 1 || op > 11) {
			t.Errorf("Names(%d) = %q", op, got)
		}
	}
	for op := 12; op < 1000; op++ {
		if Names(op) != "" || Names(1-op) != "" || Names(12-op) != "" {
			t.Error(op)
		}
	}
}

// R4

func TestWhatIsHandedInStays(t *testing.T) {
	room := join(arg, skip(2), push(1), store, load, call, put, finish, finish, load)
	before := slices.Clone(room)
	for n := range len(room) + 1 {
		l := room[:n]
		most, at, e := Check(l, 1)
		wantMost, wantAt, want := Check(slices.Clone(l), 1)
		if most != wantMost || at != wantAt || e != want {
			t.Error(n, most, at, e)
		}
		tells(t, l, told(t, slices.Clone(l))...)
		if !slices.Equal(room, before) {
			t.Fatal(n, room)
		}
	}
	right(t, room[:8], 1, 1)
	// The room behind would do, but isn't read.
	wrong(t, room[:7], 1, 6, api.ErrForm)
	wrong(t, room[:0], 1, 0, api.ErrTooMany)
}

func TestHeightsKeepNothing(t *testing.T) {
	l := join(arg, load, add, finish)
	s := Heights(l)
	clear(l)
	var got []int
	for _, h := range s {
		got = append(got, h)
	}
	if !slices.Equal(got, []int{0, 1, 2, 1}) {
		t.Error(got)
	}
	l = join(arg, load, add, finish)
	got = nil
	for _, h := range Heights(l) {
		clear(l)
		got = append(got, h)
	}
	if !slices.Equal(got, []int{0, 1, 2, 1}) {
		t.Error(got)
	}
}

// All together

// plainTakes goes by the chapter's table, plainLays as well.
func plainTakes(x api.Instr) int {
	switch x.Op {
	case 4, 6, 7, 8, 11:
		return 1
	case 5:
		return 2
	}
	return 0
}

func plainLays(x api.Instr) int {
	switch x.Op {
	case 1, 2, 3, 5, 6, 8:
		return 1
	}
	return 0
}

func plainOperands(x api.Instr, slots int) bool {
	switch x.Op {
	case 1:
		return int(int32(x.A)) == x.A && x.B == 0
	case 2, 3, 4, 5, 6, 11:
		return x.A == 0 && x.B == 0
	case 7:
		return x.A > 0 && x.B == 0
	case 8:
		return x.A >= 0 && x.A < slots && x.B >= 0 && x.B < 8
	case 9, 10:
		return x.A >= 0 && x.A < slots && x.B == 0
	}
	return false
}

// plainGoesOn tells of the instruction at j whether it goes on at i.
func plainGoesOn(x api.Instr, j, i int) bool {
	return x.Op != 11 && (i == j+1 || x.Op == 7 && i-(j+1) == x.A)
}

// plainCheck looks from each instruction back at all those ahead of it.
func plainCheck(l []api.Instr, slots int) (most, at int, e api.Errno) {
	if len(l) == 0 || len(l) > 32 {
		return 0, 0, api.ErrTooMany
	}
	left := make([]int, len(l))
	for i, x := range l {
		ahead := map[int]bool{}
		for j := range i {
			if plainGoesOn(l[j], j, i) {
				ahead[left[j]] = true
			}
		}
		if i == 0 {
			ahead[0] = true
		}
		height := -1
		for h := range ahead {
			height = h
		}
		left[i] = height - plainTakes(x) + plainLays(x)
		most = max(most, left[i])
		behind := x.Op != 11 && i == len(l)-1 || x.Op == 7 && x.A > len(l)-1-(i+1)
		switch {
		case !plainOperands(x, slots), len(ahead) != 1, plainTakes(x) > height, x.Op == 11 && height != 1:
			return 0, i, api.ErrForm
		case left[i] > 8:
			return 0, i, api.ErrDeep
		case behind:
			return 0, i, api.ErrForm
		}
	}
	return most, 0, api.OK
}

// plainHeights are those of the first n, which are right.
func plainHeights(l []api.Instr, n int) []int {
	var heights []int
	for i := range n {
		height := 0
		for j := range i {
			if plainGoesOn(l[j], j, i) {
				height = heights[j] - plainTakes(l[j]) + plainLays(l[j])
			}
		}
		heights = append(heights, height)
	}
	return heights
}

// same holds Check and Heights of l against the plain ones, and tells where it is wrong.
func same(t *testing.T, l []api.Instr, slots int) (at int, e api.Errno) {
	t.Helper()
	most, at, e := plainCheck(l, slots)
	if m, a, f := Check(l, slots); m != most || a != at || f != e {
		t.Fatalf("Check(%v, %d) = %d, %d, %d, not %d, %d, %d", l, slots, m, a, f, most, at, e)
	}
	_, n, f := plainCheck(l, 8)
	if f == api.OK {
		n = len(l)
	}
	i, want := 0, plainHeights(l, n)
	for place, h := range Heights(l) {
		if place != i || i >= n || h != want[i] {
			t.Fatalf("Heights(%v): %d, %d, not %v", l, place, h, want)
		}
		i++
	}
	if i != n {
		t.Fatalf("Heights(%v): %d of %v", l, i, want)
	}
	return at, e
}

func TestAllShortRows(t *testing.T) {
	some := join(push(1), load, store, add, neg, skip(1), skip(2), skip(3), api.Instr{Op: api.CodeCall, A: 1, B: 7}, api.Instr{Op: api.CodePut, A: 2}, finish, api.Instr{Op: api.CodeArg, B: 1})
	rights := 0
	l := make([]api.Instr, 0, 5)
	var longer func(n int)
	longer = func(n int) {
		if _, e := same(t, l, 2); e == api.OK {
			rights++
		}
		if n == 0 {
			return
		}
		for _, x := range some {
			l = append(l, x)
			longer(n - 1)
			l = l[:len(l)-1]
		}
	}
	longer(cap(l))
	if rights < 100 {
		t.Error(rights)
	}
}

// dice makes rows by a rule: no two runs of the tests differ.
type dice uint32

func (d *dice) below(n int) int {
	*d = *d*1664525 + 1013904223
	return int(*d>>16) % n
}

func (d *dice) instr() api.Instr {
	x := api.Instr{Op: 1 + d.below(11)}
	switch x.Op {
	case api.CodePush:
		x.A = d.below(1000) - 500
	case api.CodeSkip:
		x.A = 1 + d.below(1+d.below(16))
	case api.CodeCall:
		x.A, x.B = d.below(3), d.below(8)
	case api.CodePut, api.CodeDrop:
		x.A = d.below(3)
	}
	if d.below(40) == 0 {
		x.Op = d.below(13)
	}
	if d.below(40) == 0 {
		x.A = wildNumbers[d.below(len(wildNumbers))]
	}
	if d.below(40) == 0 {
		x.B = wildNumbers[d.below(len(wildNumbers))]
	}
	return x
}

// Where a row is wrong it is mended, till it is right: so long rows with many skips are met as well.
func TestAnyRows(t *testing.T) {
	d := dice(1)
	rights, deep, long := 0, 0, 0
	for range 3000 {
		l := make([]api.Instr, d.below(api.MaxCode+2))
		for i := range l {
			l[i] = d.instr()
		}
		slots := d.below(api.MaxSlots + 1)
		for range 300 {
			at, e := same(t, l, slots)
			if e == api.ErrDeep {
				deep++
			}
			if e == api.OK {
				rights++
				if len(l) > 20 {
					long++
				}
			}
			if e == api.OK || e == api.ErrTooMany {
				break
			}
			l[d.below(at+1)] = d.instr()
			l[at] = d.instr()
		}
	}
	if rights < 500 || deep < 500 || long < 50 {
		t.Error(rights, deep, long)
	}
}
