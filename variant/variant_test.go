package variant

import (
	"bytes"
	"encoding/binary"
	"iter"
	"math"
	"reflect"
	"slices"
	"strings"
	"testing"

	"tenon/api"
)

func none() api.Var           { return api.Var{} }
func boolean(n int64) api.Var { return api.Var{Kind: api.VarBool, N: n} }
func integer(n int64) api.Var { return api.Var{Kind: api.VarInt, N: n} }
func long(n int64) api.Var    { return api.Var{Kind: api.VarLong, N: n} }
func text(s string) api.Var   { return api.Var{Kind: api.VarText, S: s} }
func ref(n int64) api.Var     { return api.Var{Kind: api.VarRef, N: n} }

func list(parts ...api.Var) api.Var {
	return api.Var{Kind: api.VarList, L: parts}
}

// nested is v within so many lists.
func nested(v api.Var, lists int) api.Var {
	for range lists {
		v = list(v)
	}
	return v
}

func many(v api.Var, n int) api.Var {
	return list(slices.Repeat([]api.Var{v}, n)...)
}

func checked(t *testing.T, v api.Var, want api.Errno) {
	t.Helper()
	if e := Check(v); e != want {
		t.Errorf("Check(%.200v) = %v, not %v", v, e, want)
	}
	// Encode tells the same error, and nothing beside it.
	if b, e := Encode(v); e != want || e != api.OK && b != nil {
		t.Errorf("Encode(%.200v) = % .50x, %v, not %v", v, b, e, want)
	}
}

func encoded(t *testing.T, v api.Var, want ...byte) {
	t.Helper()
	if b, e := Encode(v); !bytes.Equal(b, want) || e != api.OK {
		t.Errorf("Encode(%.200v) = % x, %v, not % x", v, b, e, want)
	}
	decoded(t, want, v)
}

func decoded(t *testing.T, b []byte, want api.Var) {
	t.Helper()
	if v, e := Decode(b); !equal(v, want) || e != api.OK {
		t.Errorf("Decode(% .200x) = %.200v, %v, not %.200v", b, v, e, want)
	}
}

func refused(t *testing.T, b []byte, want api.Errno) {
	t.Helper()
	if v, e := Decode(b); !reflect.DeepEqual(v, api.Var{}) || e != want {
		t.Errorf("Decode(% .200x) = %.200v, %v, not %v", b, v, e, want)
	}
}

// equal goes by the fields, one by one.
func equal(a, b api.Var) bool {
	if a.Kind != b.Kind || a.N != b.N || a.S != b.S || len(a.L) != len(b.L) {
		return false
	}
	for i := range a.L {
		if !equal(a.L[i], b.L[i]) {
			return false
		}
	}
	return true
}

func clone(v api.Var) api.Var {
	l := slices.Clone(v.L)
	for i := range l {
		l[i] = clone(l[i])
	}
	v.L = l
	return v
}

type told struct {
	deeper int
	v      api.Var
}

func gone(s iter.Seq2[int, api.Var]) []told {
	var l []told
	for deeper, x := range s {
		l = append(l, told{deeper, x})
	}
	return l
}

func sameTold(a, b told) bool {
	return a.deeper == b.deeper && equal(a.v, b.v)
}

func walked(t *testing.T, s iter.Seq2[int, api.Var], want ...told) {
	t.Helper()
	if got := gone(s); !slices.EqualFunc(got, want, sameTold) {
		t.Errorf("it told %.300v, not %.300v", got, want)
	}
}

func referred(t *testing.T, v api.Var, want ...uint64) {
	t.Helper()
	if got := Refs(v); !slices.Equal(got, want) {
		t.Errorf("Refs(%.200v) = %v, not %v", v, got, want)
	}
}

// sample has a value of each kind, and lists within lists.
func sample() api.Var {
	return list(
		none(),
		list(boolean(1), list(), list(ref(-1), text("ab"))),
		integer(-2),
		list(list(list(long(3)), ref(5)), ref(6)),
		text(""),
	)
}

// P6.1

func TestCheckTakesRightValues(t *testing.T) {
	for _, v := range []api.Var{
		none(), boolean(0), boolean(1), text(""), text("a"), text("\x00\xff\xc3"), list(), sample(),
	} {
		checked(t, v, api.OK)
	}
	for _, n := range []int64{math.MinInt32, math.MinInt32 + 1, -1, 0, 1, math.MaxInt32 - 1, math.MaxInt32} {
		checked(t, integer(n), api.OK)
	}
	for _, n := range []int64{math.MinInt64, math.MinInt32 - 1, -1, 0, 1, 2, math.MaxInt32 + 1, math.MaxInt64} {
		checked(t, long(n), api.OK)
		checked(t, ref(n), api.OK)
	}
	// A list without elements is nothing.
	for kind := api.VarNone; kind <= api.VarList; kind++ {
		checked(t, api.Var{Kind: kind, L: []api.Var{}}, api.OK)
		checked(t, api.Var{Kind: kind, L: make([]api.Var, 0, 9)}, api.OK)
	}
}

func TestCheckHoldsTheKind(t *testing.T) {
	for _, kind := range []int{math.MinInt, -7, -2, -1, 7, 8, 255, 256, 257, 262, 1 << 32, math.MaxInt} {
		v := api.Var{Kind: kind}
		checked(t, v, api.ErrForm)
		checked(t, list(none(), v), api.ErrForm)
		v.N, v.S, v.L = 1, "a", []api.Var{none()}
		checked(t, v, api.ErrForm)
	}
}

func TestCheckHoldsTheNumber(t *testing.T) {
	for _, n := range []int64{math.MinInt64, -256, -2, -1, 2, 3, 256, 257, 1 << 32, 1<<32 + 1, math.MaxInt64} {
		checked(t, boolean(n), api.ErrForm)
	}
	for _, n := range []int64{math.MinInt64, math.MinInt64 + 1, math.MinInt32 - 1, -1 << 32, math.MaxInt32 + 1, 1<<32 - 1, 1 << 32, math.MaxInt64} {
		checked(t, integer(n), api.ErrForm)
	}
	for _, kind := range []int{api.VarNone, api.VarText, api.VarList} {
		for _, n := range []int64{math.MinInt64, -1, 1, 1 << 32, math.MaxInt64} {
			checked(t, api.Var{Kind: kind, N: n}, api.ErrForm)
		}
	}
}

func TestCheckHoldsFieldsThatShouldBeZero(t *testing.T) {
	for kind := api.VarNone; kind <= api.VarList; kind++ {
		if kind != api.VarText {
			checked(t, api.Var{Kind: kind, S: "a"}, api.ErrForm)
			checked(t, api.Var{Kind: kind, S: "\x00"}, api.ErrForm)
		}
		if kind != api.VarList {
			checked(t, api.Var{Kind: kind, L: []api.Var{none()}}, api.ErrForm)
			checked(t, api.Var{Kind: kind, L: make([]api.Var, 65)}, api.ErrForm)
		}
	}
}

func TestCheckCounts(t *testing.T) {
	for _, n := range []int{255, 256} {
		checked(t, text(strings.Repeat("x", n)), api.OK)
	}
	for _, n := range []int{257, 512, 65535, 65536, 1 << 20} {
		checked(t, text(strings.Repeat("x", n)), api.ErrTooMany)
	}
	// Bytes are counted, not letters.
	checked(t, text(strings.Repeat("\u00e4", 128)), api.OK)
	checked(t, text(strings.Repeat("\u00e4", 128)+"x"), api.ErrTooMany)
	for _, n := range []int{63, 64} {
		checked(t, many(none(), n), api.OK)
		checked(t, many(text("a"), n), api.OK)
	}
	for _, n := range []int{65, 66, 128, 100000} {
		checked(t, many(none(), n), api.ErrTooMany)
	}
	// Room behind the length holds no parts.
	checked(t, api.Var{Kind: api.VarList, L: make([]api.Var, 64, 65)}, api.OK)
	// Each list is counted for itself.
	checked(t, many(many(none(), 64), 64), api.OK)
}

func TestCheckHoldsTheDepth(t *testing.T) {
	for _, v := range []api.Var{none(), boolean(1), integer(1), long(1), text("a"), ref(1), list()} {
		for lists := range 8 {
			checked(t, nested(v, lists), api.OK)
		}
		for _, lists := range []int{8, 9, 10, 100} {
			checked(t, nested(v, lists), api.ErrDeep)
		}
	}
	// A list that is 8 deep has no parts, a list that is 7 deep may have them.
	checked(t, nested(list(), 7), api.OK)
	checked(t, nested(list(none(), none()), 6), api.OK)
	checked(t, nested(list(none()), 7), api.ErrDeep)
}

func TestCheckTellsTheFirstErrorOfAValue(t *testing.T) {
	tooLong := strings.Repeat("x", 257)
	// Too deep ahead of all.
	for _, v := range []api.Var{{Kind: 7}, boolean(2), {S: "a"}, text(tooLong), many(none(), 65)} {
		checked(t, nested(v, 8), api.ErrDeep)
	}
	// No form ahead of too many.
	checked(t, api.Var{Kind: api.VarText, N: 1, S: tooLong}, api.ErrForm)
	checked(t, api.Var{Kind: api.VarText, S: tooLong, L: []api.Var{none()}}, api.ErrForm)
	checked(t, api.Var{Kind: api.VarList, N: 1, L: make([]api.Var, 65)}, api.ErrForm)
	checked(t, api.Var{Kind: api.VarList, S: "a", L: make([]api.Var, 65)}, api.ErrForm)
	checked(t, api.Var{Kind: api.VarInt, S: tooLong}, api.ErrForm)
	checked(t, api.Var{Kind: 7, S: tooLong, L: make([]api.Var, 65)}, api.ErrForm)
}

func TestCheckTellsOfTheFirstValueThatIsWrong(t *testing.T) {
	form, tooMany, deep := boolean(2), text(strings.Repeat("x", 257)), nested(none(), 8)
	// Of parts the first one, and all that is within it.
	checked(t, list(none(), form, tooMany, deep), api.ErrForm)
	checked(t, list(none(), tooMany, deep, form), api.ErrTooMany)
	checked(t, list(none(), deep, form, tooMany), api.ErrDeep)
	checked(t, list(list(none(), tooMany), form), api.ErrTooMany)
	checked(t, list(list(none(), list(form)), tooMany), api.ErrForm)
	checked(t, list(list(none(), list(none())), tooMany, form), api.ErrTooMany)
	// What is around it is ahead of its parts.
	checked(t, many(form, 65), api.ErrTooMany)
	checked(t, many(deep, 65), api.ErrTooMany)
	checked(t, api.Var{Kind: api.VarList, N: 1, L: []api.Var{tooMany}}, api.ErrForm)
	checked(t, api.Var{Kind: api.VarInt, L: []api.Var{deep}}, api.ErrForm)
	checked(t, nested(api.Var{Kind: 7, L: []api.Var{none()}}, 7), api.ErrForm)
	checked(t, nested(many(none(), 65), 7), api.ErrTooMany)
}

// P6.2: Encode, and Decode of what it tells

func TestFormsOfEachKind(t *testing.T) {
	encoded(t, none(), 0)
	encoded(t, boolean(0), 1, 0)
	encoded(t, boolean(1), 1, 1)
	encoded(t, integer(0x12345678), 2, 0, 0, 0, 0x78, 0x56, 0x34, 0x12)
	encoded(t, integer(-1), 2, 0, 0, 0, 0xff, 0xff, 0xff, 0xff)
	encoded(t, integer(-2), 2, 0, 0, 0, 0xfe, 0xff, 0xff, 0xff)
	encoded(t, integer(math.MinInt32), 2, 0, 0, 0, 0, 0, 0, 0x80)
	encoded(t, integer(math.MaxInt32), 2, 0, 0, 0, 0xff, 0xff, 0xff, 0x7f)
	encoded(t, long(0x0123456789abcdef), 3, 0, 0, 0, 0, 0, 0, 0, 0xef, 0xcd, 0xab, 0x89, 0x67, 0x45, 0x23, 1)
	encoded(t, long(-2), 3, 0, 0, 0, 0, 0, 0, 0, 0xfe, 0xff, 0xff, 0xff, 0xff, 0xff, 0xff, 0xff)
	encoded(t, long(math.MinInt64), 3, 0, 0, 0, 0, 0, 0, 0, 0, 0, 0, 0, 0, 0, 0, 0x80)
	encoded(t, text(""), 4, 0, 0, 0, 0, 0, 0, 0)
	encoded(t, text("ab\x00\xff"), 4, 0, 0, 0, 4, 0, 0, 0, 'a', 'b', 0, 0xff)
	encoded(t, ref(258), 5, 0, 0, 0, 0, 0, 0, 0, 2, 1, 0, 0, 0, 0, 0, 0)
	encoded(t, ref(-1), 5, 0, 0, 0, 0, 0, 0, 0, 0xff, 0xff, 0xff, 0xff, 0xff, 0xff, 0xff, 0xff)
	encoded(t, list(), 6, 0, 0, 0, 0, 0, 0, 0)
	// A VarLong that a VarInt has room for is a VarLong still.
	encoded(t, long(1), 3, 0, 0, 0, 0, 0, 0, 0, 1, 0, 0, 0, 0, 0, 0, 0)
}

func TestFormsOfLists(t *testing.T) {
	encoded(t, list(boolean(1), text("a")), 6, 0, 0, 0, 2, 0, 0, 0, 1, 1, 4, 0, 1, 0, 0, 0, 'a')
	encoded(t, list(none()), 6, 0, 0, 0, 1, 0, 0, 0, 0)
	encoded(t, list(list(), none(), list(none(), none())),
		6, 0, 0, 0, 3, 0, 0, 0,
		6, 0, 0, 0, 0, 0, 0, 0,
		0,
		6, 0, 0, 2, 0, 0, 0, 0, 0)
	// The places are counted from the beginning of the whole.
	encoded(t, list(text("a"), integer(-1), boolean(0), long(2)),
		6, 0, 0, 0, 4, 0, 0, 0,
		4, 0, 0, 0, 1, 0, 0, 0, 'a',
		2, 0, 0, 0xff, 0xff, 0xff, 0xff,
		1, 0,
		3, 0, 0, 0, 0, 0,
		2, 0, 0, 0, 0, 0, 0, 0)
	encoded(t, list(none(), ref(1)), 6, 0, 0, 0, 2, 0, 0, 0, 0, 5, 0, 0, 0, 0, 0, 0, 1, 0, 0, 0, 0, 0, 0, 0)
}

// plainForm goes by the chapter's words, a byte at a time.
func plainForm(b []byte, v api.Var) []byte {
	number := func(n uint64, size int) {
		for len(b)%size != 0 {
			b = append(b, 0)
		}
		for range size {
			b = append(b, byte(n))
			n >>= 8
		}
	}
	number(uint64(v.Kind), 1)
	switch v.Kind {
	case 1:
		number(uint64(v.N), 1)
	case 2:
		number(uint64(v.N), 4)
	case 3, 5:
		number(uint64(v.N), 8)
	case 4:
		number(uint64(len(v.S)), 4)
		b = append(b, v.S...)
	case 6:
		number(uint64(len(v.L)), 4)
		for _, part := range v.L {
			b = plainForm(b, part)
		}
	}
	return b
}

// ahead are values whose forms have so many bytes behind a list's count, modulo 8.
func ahead(n int) []api.Var {
	return slices.Repeat([]api.Var{none()}, n)
}

func TestFormsAtEachPlace(t *testing.T) {
	for n := range 9 {
		for _, v := range []api.Var{boolean(1), integer(-3), long(-3), text(""), text("abc"), ref(-3), list(), list(none(), long(1)), sample()} {
			whole := list(append(ahead(n), v, integer(7))...)
			encoded(t, whole, plainForm(nil, whole)...)
		}
	}
	encoded(t, sample(), plainForm(nil, sample())...)
}

func TestFormsAtTheLimits(t *testing.T) {
	for _, v := range []api.Var{
		text(strings.Repeat("x", 256)),
		many(none(), 64),
		many(text(strings.Repeat("y", 256)), 64),
		many(many(long(-1), 64), 64),
		nested(none(), 7),
		nested(list(), 7),
		nested(many(integer(1), 64), 6),
	} {
		encoded(t, v, plainForm(nil, v)...)
	}
}

// P6.2: Decode

func TestDecodeOfBytesThatEndTooEarly(t *testing.T) {
	refused(t, nil, api.ErrShort)
	refused(t, []byte{}, api.ErrShort)
	for _, v := range []api.Var{boolean(1), integer(1), long(1), text("abc"), ref(1), list(none(), long(1)), sample(), nested(none(), 7)} {
		b := plainForm(nil, v)
		for end := range b {
			refused(t, b[:end], api.ErrShort)
		}
	}
	// A list without its parts.
	refused(t, []byte{6, 0, 0, 0, 1, 0, 0, 0}, api.ErrShort)
	refused(t, []byte{6, 0, 0, 0, 64, 0, 0, 0}, api.ErrShort)
	refused(t, []byte{6, 0, 0, 0, 2, 0, 0, 0, 0}, api.ErrShort)
}

func TestDecodeOfBytesThatAreLeft(t *testing.T) {
	for _, v := range []api.Var{none(), boolean(1), integer(1), long(1), text("abc"), ref(1), list(), list(none()), sample()} {
		b := plainForm(nil, v)
		for more := 1; more < 10; more++ {
			refused(t, append(b, make([]byte, more)...), api.ErrForm)
		}
		refused(t, append(b, b...), api.ErrForm)
		refused(t, append(b, 7), api.ErrForm)
	}
}

func TestDecodeHoldsTheKind(t *testing.T) {
	for kind := 7; kind < 256; kind++ {
		refused(t, []byte{byte(kind)}, api.ErrForm)
		refused(t, append([]byte{byte(kind)}, make([]byte, 15)...), api.ErrForm)
		refused(t, []byte{6, 0, 0, 0, 1, 0, 0, 0, byte(kind)}, api.ErrForm)
	}
}

func TestDecodeHoldsBools(t *testing.T) {
	for n := 2; n < 256; n++ {
		refused(t, []byte{1, byte(n)}, api.ErrForm)
		refused(t, []byte{1, byte(n), 0}, api.ErrForm)
		refused(t, []byte{6, 0, 0, 0, 1, 0, 0, 0, 1, byte(n)}, api.ErrForm)
	}
}

func TestDecodeHoldsBytesThatArePassedOver(t *testing.T) {
	for _, v := range []api.Var{integer(1), long(1), text("a"), ref(1), list(none())} {
		b := plainForm(nil, v)
		size := 4
		if v.Kind == api.VarLong || v.Kind == api.VarRef {
			size = 8
		}
		for i := 1; i < size; i++ {
			for bit := range 8 {
				wrong := slices.Clone(b)
				wrong[i] |= 1 << bit
				refused(t, wrong, api.ErrForm)
				refused(t, wrong[:2*size], api.ErrForm)
				// Too few bytes are told ahead of it.
				refused(t, wrong[:2*size-1], api.ErrShort)
			}
		}
	}
}

func TestDecodeCounts(t *testing.T) {
	for _, n := range []uint32{257, 258, 512, 65535, 65536, 1 << 24, 1<<31 - 1, 1 << 31, math.MaxUint32} {
		b := binary.LittleEndian.AppendUint32([]byte{4, 0, 0, 0}, n)
		refused(t, b, api.ErrTooMany)
		refused(t, append(b, make([]byte, 600)...), api.ErrTooMany)
	}
	// Of 256 they are too few alone.
	refused(t, binary.LittleEndian.AppendUint32([]byte{4, 0, 0, 0}, 256), api.ErrShort)
	for _, n := range []uint32{65, 66, 128, 256, 257, 65536, 1 << 24, 1 << 31, 1<<31 + 1, math.MaxUint32} {
		b := binary.LittleEndian.AppendUint32([]byte{6, 0, 0, 0}, n)
		refused(t, b, api.ErrTooMany)
		refused(t, append(b, make([]byte, 600)...), api.ErrTooMany)
	}
	refused(t, binary.LittleEndian.AppendUint32([]byte{6, 0, 0, 0}, 64), api.ErrShort)
	// The bytes that are passed over are held ahead of the count.
	refused(t, []byte{4, 1, 0, 0, 1, 1, 0, 0}, api.ErrForm)
	refused(t, []byte{6, 1, 0, 0, 65, 0, 0, 0}, api.ErrForm)
	refused(t, []byte{6, 0, 0, 0, 65, 0, 0}, api.ErrShort)
}

// listsOf begins so many lists of one part.
func listsOf(n int) []byte {
	return bytes.Repeat([]byte{6, 0, 0, 0, 1, 0, 0, 0}, n)
}

func TestDecodeHoldsTheDepth(t *testing.T) {
	refused(t, listsOf(7), api.ErrShort)
	decoded(t, append(listsOf(7), 0), nested(none(), 7))
	refused(t, append(listsOf(7), 7), api.ErrForm)
	// Ahead of any of its bytes: there may be none, or wrong ones.
	refused(t, listsOf(8), api.ErrDeep)
	refused(t, append(listsOf(8), 0), api.ErrDeep)
	refused(t, append(listsOf(8), 7), api.ErrDeep)
	refused(t, append(listsOf(8), 6, 0, 0, 0, 65, 0, 0, 0), api.ErrDeep)
	refused(t, listsOf(9), api.ErrDeep)
	refused(t, listsOf(65536), api.ErrDeep)
	// A list that is 8 deep has no parts, but its own bytes are read.
	decoded(t, append(listsOf(7), 6, 0, 0, 0, 0, 0, 0, 0), nested(list(), 7))
	refused(t, append(listsOf(7), 6, 0, 0, 0, 65, 0, 0, 0), api.ErrTooMany)
	refused(t, append(listsOf(7), 6, 0, 0, 0, 64, 0, 0, 0), api.ErrDeep)
	refused(t, append(listsOf(7), 6, 1, 0, 0, 1, 0, 0, 0), api.ErrForm)
	refused(t, append(listsOf(7), 6, 0, 0, 0, 1, 0, 0), api.ErrShort)
}

func TestDecodeTellsWhatIsReadFirst(t *testing.T) {
	begin := []byte{6, 0, 0, 0, 3, 0, 0, 0}
	tooMany := []byte{6, 0, 0, 0, 65, 0, 0, 0}
	whole := []byte{6, 0, 0, 0, 0, 0, 0, 0}
	// The first part, and what is within it, ahead of the next one.
	refused(t, slices.Concat(begin, tooMany, []byte{7}), api.ErrTooMany)
	refused(t, slices.Concat(begin, []byte{7}, tooMany), api.ErrForm)
	refused(t, slices.Concat(begin, listsOf(8), tooMany), api.ErrDeep)
	refused(t, slices.Concat(begin, whole, []byte{1, 2}, tooMany), api.ErrForm)
	refused(t, slices.Concat(begin, listsOf(1), tooMany, []byte{7}), api.ErrTooMany)
	refused(t, slices.Concat(begin, whole, tooMany, []byte{7}), api.ErrTooMany)
	refused(t, slices.Concat(begin, whole, whole), api.ErrShort)
	refused(t, slices.Concat(begin, whole, whole, tooMany, []byte{7}), api.ErrTooMany)
	// What is left behind comes last.
	refused(t, slices.Concat(begin, whole, whole, whole, []byte{0}), api.ErrForm)
	refused(t, slices.Concat(begin, whole, whole, []byte{0, 0}), api.ErrForm)
	decoded(t, slices.Concat(begin, whole, whole, []byte{0}), list(list(), list(), none()))
}

// plainReader goes by the chapter's words, and panics with the error.
type plainReader struct {
	b  []byte
	at int
}

func (p *plainReader) number(size int) uint64 {
	begin := p.at
	for begin%size != 0 {
		begin++
	}
	if begin+size > len(p.b) {
		panic(api.ErrShort)
	}
	for _, b := range p.b[p.at:begin] {
		if b != 0 {
			panic(api.ErrForm)
		}
	}
	var n uint64
	for i := size - 1; i >= 0; i-- {
		n = n<<8 | uint64(p.b[begin+i])
	}
	p.at = begin + size
	return n
}

func (p *plainReader) value(deep int) api.Var {
	if deep > 8 {
		panic(api.ErrDeep)
	}
	v := api.Var{Kind: int(p.number(1))}
	switch v.Kind {
	case 0:
	case 1:
		v.N = int64(p.number(1))
		if v.N > 1 {
			panic(api.ErrForm)
		}
	case 2:
		v.N = int64(p.number(4))
		if v.N >= 1<<31 {
			v.N -= 1 << 32
		}
	case 3, 5:
		v.N = int64(p.number(8))
	case 4:
		n := int(p.number(4))
		if n > 256 {
			panic(api.ErrTooMany)
		}
		if n > len(p.b)-p.at {
			panic(api.ErrShort)
		}
		v.S = string(p.b[p.at : p.at+n])
		p.at += n
	case 6:
		n := int(p.number(4))
		if n > 64 {
			panic(api.ErrTooMany)
		}
		for range n {
			v.L = append(v.L, p.value(deep+1))
		}
	default:
		panic(api.ErrForm)
	}
	return v
}

func plainDecode(b []byte) (v api.Var, e api.Errno) {
	defer func() {
		if x := recover(); x != nil {
			v, e = api.Var{}, x.(api.Errno)
		}
	}()
	p := &plainReader{b: b}
	v = p.value(1)
	if p.at < len(b) {
		panic(api.ErrForm)
	}
	return v, api.OK
}

func compareDecode(t *testing.T, b []byte) api.Errno {
	t.Helper()
	want, wantError := plainDecode(b)
	v, e := Decode(b)
	if e != wantError || !equal(v, want) {
		t.Fatalf("Decode(% x) = %v, %v, not %v, %v", b, v, e, want, wantError)
	}
	if e != api.OK {
		return e
	}
	// There is one form of a value alone.
	if again, e := Encode(v); !bytes.Equal(again, b) || e != api.OK {
		t.Fatalf("Encode(%v) = % x, %v, not % x", v, again, e, b)
	}
	return e
}

// dice makes values and bytes by a rule: no two runs of the tests differ.
type dice uint32

func (d *dice) below(n int) int {
	*d = *d*1664525 + 1013904223
	return int(*d>>16) % n
}

func (d *dice) number() int64 {
	edges := []int64{0, 1, -1, 2, math.MinInt32, math.MaxInt32, math.MinInt32 - 1, math.MaxInt32 + 1, math.MinInt64, math.MaxInt64}
	return edges[d.below(len(edges))]
}

// right makes a right value.
func (d *dice) right(deep int) api.Var {
	switch kind := d.below(8); {
	case kind == 1:
		return boolean(int64(d.below(2)))
	case kind == 2:
		return integer(int64(int32(d.number())))
	case kind == 3:
		return long(d.number())
	case kind == 4:
		return text(strings.Repeat("\x00z", d.below(6)))
	case kind == 5:
		return ref(d.number())
	case kind > 5 && deep < 8:
		v := list()
		for range d.below(5) {
			v.L = append(v.L, d.right(deep+1))
		}
		return v
	}
	return none()
}

// any makes a value that may be wrong.
func (d *dice) any(deep int) api.Var {
	if d.below(3) > 0 {
		v := d.right(0)
		if deep < 12 && v.Kind == api.VarList && d.below(2) == 0 {
			v.L = append(v.L, d.any(deep+1))
		}
		return v
	}
	v := api.Var{Kind: d.below(9) - 1, N: d.number()}
	if d.below(3) == 0 {
		v.N = 0
	}
	if d.below(3) == 0 {
		v.S = strings.Repeat("x", []int{1, 256, 257}[d.below(3)])
	}
	if d.below(3) == 0 {
		v.Kind, v.N, v.S = api.VarList, 0, ""
		for range []int{0, 1, 2, 64, 65}[d.below(5)] {
			v.L = append(v.L, d.right(6))
		}
	}
	for deep < 12 && d.below(2) == 0 {
		v.L = append(v.L, d.any(deep+1))
	}
	return v
}

func TestDecodeOfAllShortRows(t *testing.T) {
	letters := []byte{0, 1, 2, 3, 4, 5, 6, 7, 0x80, 0xff}
	b := make([]byte, 5)
	var all func(n int)
	all = func(n int) {
		compareDecode(t, b[:n])
		if n == len(b) {
			return
		}
		for _, x := range letters {
			b[n] = x
			all(n + 1)
		}
	}
	all(0)
}

func TestDecodeOfAnyBytes(t *testing.T) {
	d := dice(1)
	count := map[api.Errno]int{}
	for range 60000 {
		var b []byte
		if d.below(4) > 0 {
			b = plainForm(nil, d.right(d.below(3)))
		}
		if d.below(6) == 0 {
			b = append(listsOf(d.below(9)), b...)
		}
		for range d.below(4) {
			switch at := d.below(len(b) + 1); d.below(4) {
			case 0:
				b = b[:at]
			case 1:
				b = slices.Insert(b, at, byte(d.below(9)))
			case 2:
				b = append(b, byte(d.below(256)))
			case 3:
				if at < len(b) {
					b[at] = byte(d.below(70))
				}
			}
		}
		count[compareDecode(t, b)]++
	}
	for _, e := range []api.Errno{api.OK, api.ErrDeep, api.ErrShort, api.ErrForm, api.ErrTooMany} {
		if count[e] < 100 {
			t.Errorf("error %v was told %d times", e, count[e])
		}
	}
}

func plainCheck(v api.Var, deep int) api.Errno {
	var number bool
	switch v.Kind {
	case 0, 4, 6:
		number = v.N == 0
	case 1:
		number = v.N == 0 || v.N == 1
	case 2:
		number = v.N >= -1<<31 && v.N < 1<<31
	case 3, 5:
		number = true
	}
	switch {
	case deep > 8:
		return api.ErrDeep
	case !number || v.S != "" && v.Kind != 4 || len(v.L) > 0 && v.Kind != 6:
		return api.ErrForm
	case len(v.S) > 256 || len(v.L) > 64:
		return api.ErrTooMany
	}
	for _, part := range v.L {
		if e := plainCheck(part, deep+1); e != api.OK {
			return e
		}
	}
	return api.OK
}

func plainWalk(l []told, v api.Var, deeper int) []told {
	l = append(l, told{deeper, v})
	for _, part := range v.L {
		l = plainWalk(l, part, deeper+1)
	}
	return l
}

func plainRefs(v api.Var) []uint64 {
	var l []uint64
	for _, x := range plainWalk(nil, v, 0) {
		if x.v.Kind == api.VarRef {
			l = append(l, uint64(x.v.N))
		}
	}
	return l
}

func TestAnyValues(t *testing.T) {
	d := dice(2)
	count := map[api.Errno]int{}
	before := none()
	for range 6000 {
		v := d.any(0)
		if d.below(4) == 0 {
			v = nested(v, d.below(12))
		}
		e := plainCheck(v, 1)
		count[e]++
		checked(t, v, e)
		if e == api.OK {
			encoded(t, v, plainForm(nil, v)...)
		}
		walked(t, Walk(v), plainWalk(nil, v, 0)...)
		referred(t, v, plainRefs(v)...)
		same(t, v, clone(v), true)
		same(t, v, before, equal(v, before))
		before = v
	}
	for _, e := range []api.Errno{api.OK, api.ErrDeep, api.ErrForm, api.ErrTooMany} {
		if count[e] < 100 {
			t.Errorf("error %v was told %d times", e, count[e])
		}
	}
}

// P6.3: Same

func same(t *testing.T, a, b api.Var, want bool) {
	t.Helper()
	if Same(a, b) != want || Same(b, a) != want {
		t.Errorf("Same(%.200v, %.200v) isn't %v", a, b, want)
	}
}

func TestSame(t *testing.T) {
	l := []api.Var{
		none(), boolean(0), boolean(1), integer(0), integer(1), long(0), long(1), long(-1), long(1 << 32), text(""), text("a"), text("b"), text("ab"), text("a\x00"),
		ref(0), ref(1), ref(-1), list(), list(none()), list(none(), none()), list(list()), list(list(none())), list(boolean(0)), list(integer(0)), list(text("")),
		list(integer(1), integer(2)), list(integer(2), integer(1)), list(integer(1), integer(2), integer(3)), list(list(integer(1)), integer(2)), list(integer(1), list(integer(2))), sample(),
	}
	for i, a := range l {
		for j, b := range l {
			same(t, clone(a), clone(b), i == j)
			same(t, nested(a, 3), nested(b, 3), i == j)
		}
	}
}

func TestSameHoldsAllFieldsWhateverTheKind(t *testing.T) {
	for _, kind := range []int{math.MinInt, -1, 0, 1, 2, 3, 4, 5, 6, 7, math.MaxInt} {
		full := func() api.Var {
			return api.Var{Kind: kind, N: 5, S: "a", L: []api.Var{integer(1), {Kind: kind, N: 7}}}
		}
		same(t, full(), full(), true)
		for _, change := range []func(v *api.Var){
			func(v *api.Var) { v.Kind ^= 8 },
			func(v *api.Var) { v.N = 6 },
			func(v *api.Var) { v.N += 1 << 32 },
			func(v *api.Var) { v.S = "" },
			func(v *api.Var) { v.S = "A" },
			func(v *api.Var) { v.L = nil },
			func(v *api.Var) { v.L = v.L[:1] },
			func(v *api.Var) { v.L = append(v.L, none()) },
			func(v *api.Var) { v.L[0].N = 2 },
			func(v *api.Var) { v.L[1].Kind ^= 8 },
			func(v *api.Var) { v.L[1].S = "b" },
			func(v *api.Var) { v.L[1].L = []api.Var{none()} },
			func(v *api.Var) { v.L[0], v.L[1] = v.L[1], v.L[0] },
		} {
			v := full()
			change(&v)
			same(t, full(), v, false)
		}
	}
}

// A list that is nil, and one without elements, are the same.
func TestSameOfNothing(t *testing.T) {
	for kind := -1; kind <= 7; kind++ {
		a, b := api.Var{Kind: kind}, api.Var{Kind: kind, L: make([]api.Var, 0, 3)}
		same(t, a, b, true)
		same(t, list(a), list(b), true)
	}
	// Room behind the length isn't read.
	room := []api.Var{integer(1), integer(2)}
	same(t, api.Var{L: room[:1]}, api.Var{L: []api.Var{integer(1)}}, true)
}

// P6.3: Walk

func TestWalk(t *testing.T) {
	for _, v := range []api.Var{none(), boolean(1), integer(-1), long(1), text("a"), ref(1), list()} {
		walked(t, Walk(v), told{0, v})
		walked(t, Walk(list(v)), told{0, list(v)}, told{1, v})
	}
	v := list(integer(1), list(integer(2), list(), integer(3)), integer(4))
	walked(t, Walk(v),
		told{0, v},
		told{1, integer(1)},
		told{1, v.L[1]},
		told{2, integer(2)},
		told{2, list()},
		told{2, integer(3)},
		told{1, integer(4)},
	)
	walked(t, Walk(sample()), plainWalk(nil, sample(), 0)...)
}

func TestWalkOfValuesThatMayNotBe(t *testing.T) {
	for _, kind := range []int{math.MinInt, -1, 0, 1, 2, 3, 4, 5, 7, math.MaxInt} {
		part := api.Var{Kind: kind, N: 9, S: "b"}
		inner := api.Var{Kind: kind, L: []api.Var{part, integer(1)}}
		v := api.Var{Kind: kind, N: math.MinInt64, S: strings.Repeat("a", 300), L: []api.Var{inner, part}}
		walked(t, Walk(v), told{0, v}, told{1, inner}, told{2, part}, told{2, integer(1)}, told{1, part})
	}
	// Too deep, and too many.
	v := nested(many(integer(3), 100), 20)
	walked(t, Walk(v), plainWalk(nil, v, 0)...)
	// Room behind the length isn't read.
	room := []api.Var{integer(1), integer(2)}
	walked(t, Walk(list(room[:1]...)), told{0, list(integer(1))}, told{1, integer(1)})
}

func TestWalkStopsWhenItIsAskedTo(t *testing.T) {
	all := plainWalk(nil, sample(), 0)
	s := Walk(sample())
	for most := 1; most <= len(all); most++ {
		var got []told
		s(func(deeper int, x api.Var) bool {
			got = append(got, told{deeper, x})
			return len(got) < most
		})
		if !slices.EqualFunc(got, all[:most], sameTold) {
			t.Errorf("it told %v and was asked to stop behind %d", got, most)
		}
	}
}

func TestWalkTellsTheSameEachTime(t *testing.T) {
	all := plainWalk(nil, sample(), 0)
	s := Walk(sample())
	for range s {
		break
	}
	for range 3 {
		walked(t, s, all...)
	}
	n := 0
	for range s {
		for range s {
			n++
		}
	}
	if n != len(all)*len(all) {
		t.Fatal(n)
	}
}

// spoil changes all that is reached from v, and the room behind it.
func spoil(v api.Var) {
	for i, part := range v.L {
		spoil(part)
		v.L[i] = api.Var{Kind: 99, N: 99, S: "spoilt", L: []api.Var{{Kind: 99}}}
	}
	room := v.L[:cap(v.L)]
	for i := len(v.L); i < len(room); i++ {
		room[i] = api.Var{Kind: 99}
	}
}

// R4: nothing of v is kept but by its values, so that what becomes of it later isn't seen.
func TestWalkDoesNotKeepTheValue(t *testing.T) {
	for _, make := range []func() api.Var{sample, func() api.Var { return nested(sample(), 12) }} {
		v := make()
		all := plainWalk(nil, make(), 0)
		s := Walk(v)
		spoil(v)
		walked(t, s, all...)
		walked(t, s, all...)
		v = make()
		var got []told
		for deeper, x := range Walk(v) {
			got = append(got, told{deeper, clone(x)})
			spoil(v)
		}
		if !slices.EqualFunc(got, all, sameTold) {
			t.Error(got)
		}
	}
}

// R4 and R6: who is told a value may change it, and sees no other one change.
func TestWalkTellsNewMemory(t *testing.T) {
	for _, make := range []func() api.Var{sample, func() api.Var { return nested(sample(), 12) }} {
		v := make()
		all := plainWalk(nil, make(), 0)
		s := Walk(v)
		for range 2 {
			var got []told
			for deeper, x := range s {
				got = append(got, told{deeper, clone(x)})
				spoil(x)
			}
			if !slices.EqualFunc(got, all, sameTold) {
				t.Error(got)
			}
		}
		if !equal(v, make()) {
			t.Error(v)
		}
		// All are told first, and changed then, one by one.
		got := gone(s)
		for i, x := range got {
			if !sameTold(x, all[i]) {
				t.Error(i, x)
			}
			spoil(x.v)
		}
	}
}

func TestWalkLeavesRoomAlone(t *testing.T) {
	room := []api.Var{integer(1), integer(2), integer(3)}
	before := slices.Clone(room)
	for n := range 4 {
		for _, x := range Walk(api.Var{Kind: api.VarList, L: room[:n]}) {
			_ = append(x.L, text("x"), text("y"), text("z"))
		}
		for _, x := range Walk(list(api.Var{Kind: api.VarList, L: room[:n]})) {
			_ = append(x.L, text("x"), text("y"), text("z"))
		}
	}
	if !slices.EqualFunc(room, before, equal) {
		t.Error(room)
	}
}

// P6.3: Refs

func TestRefs(t *testing.T) {
	for _, v := range []api.Var{none(), boolean(1), integer(7), long(7), text("7"), list(), list(long(5), integer(5))} {
		referred(t, v)
	}
	referred(t, ref(7), 7)
	referred(t, ref(0), 0)
	referred(t, ref(-1), math.MaxUint64)
	referred(t, ref(math.MinInt64), 1<<63)
	referred(t, ref(math.MaxInt64), 1<<63-1)
	referred(t, sample(), math.MaxUint64, 5, 6)
	// Each as often as it is there, in the order of the values, not of the numbers.
	referred(t, list(ref(3), list(ref(1), list(ref(3)), long(4)), ref(2), ref(3)), 3, 1, 3, 2, 3)
	// Of values that may not be, too.
	referred(t, api.Var{Kind: api.VarRef, N: 1, S: "a", L: []api.Var{ref(2), {Kind: -1, N: 3, L: []api.Var{ref(4)}}}}, 1, 2, 4)
	referred(t, nested(ref(5), 20), 5)
}

// R4

func TestValuesAreLeftAlone(t *testing.T) {
	room := []api.Var{integer(1), list(ref(2), text("a")), {Kind: 9, L: []api.Var{ref(3)}}, text("behind")}
	before := list(clone(list(room...)).L...)
	for n := range 4 {
		v := api.Var{Kind: api.VarList, L: room[:n]}
		Check(v)
		Encode(v)
		Same(v, v)
		Refs(v)
		gone(Walk(v))
		if !equal(list(room...), before) {
			t.Fatal(room)
		}
	}
}

func TestFormsAreNewMemory(t *testing.T) {
	first, _ := Encode(sample())
	for i := range first {
		first[i] = 0x55
	}
	encoded(t, sample(), plainForm(nil, sample())...)
}

func TestDecodeDoesNotKeepTheBytes(t *testing.T) {
	room := append(plainForm(nil, sample()), 1, 2, 3)
	b := room[:len(room)-3]
	before := slices.Clone(room)
	v, e := Decode(b)
	if !bytes.Equal(room, before) {
		t.Fatal(room)
	}
	for i := range room {
		room[i] = 0xee
	}
	if e != api.OK || !equal(v, sample()) {
		t.Fatal(v, e)
	}
	// Two readings share nothing.
	a, _ := Decode(before[:len(b)])
	spoil(v)
	if !equal(a, sample()) {
		t.Fatal(a)
	}
}

// No list that Decode tells has another one behind its length.
func TestDecodedListsDoNotShare(t *testing.T) {
	v, _ := Decode(plainForm(nil, sample()))
	for _, l := range [][]api.Var{v.L, v.L[1].L, v.L[1].L[1].L, v.L[1].L[2].L, v.L[3].L, v.L[3].L[0].L} {
		_ = append(l, text("x"), text("y"), text("z"))
	}
	if !equal(v, sample()) {
		t.Fatal(v)
	}
}

func TestRefsAreNewMemory(t *testing.T) {
	v := sample()
	Refs(v)[0] = 9
	referred(t, v, math.MaxUint64, 5, 6)
}

// R1: what is deep or long ends soon.

func TestDeepValues(t *testing.T) {
	const lists = 1<<16 - 1
	v := nested(ref(5), lists)
	checked(t, v, api.ErrDeep)
	if !Same(v, nested(ref(5), lists)) || Same(v, nested(ref(6), lists)) || Same(v, v.L[0]) {
		t.Error("Same")
	}
	referred(t, v, 5)
	n := 0
	for deeper, x := range Walk(v) {
		if deeper != n || (x.Kind == api.VarRef) != (n == lists) {
			t.Fatal(deeper, n, x.Kind)
		}
		n++
	}
	if n != lists+1 {
		t.Error(n)
	}
	n = 0
	for range Walk(v) {
		n++
		if n == 60000 {
			break
		}
	}
	if n != 60000 {
		t.Error(n)
	}
}

func TestLongValues(t *testing.T) {
	const parts = 1000000
	v := many(ref(5), parts)
	checked(t, v, api.ErrTooMany)
	if !Same(v, many(ref(5), parts)) || Same(v, many(ref(5), parts-1)) {
		t.Error("Same")
	}
	if l := Refs(v); len(l) != parts || l[parts-1] != 5 {
		t.Error(len(l))
	}
	n := 0
	for range Walk(v) {
		n++
	}
	if n != parts+1 {
		t.Error(n)
	}
	// A great right one: 64 lists of 64 lists of 64.
	v = many(many(many(text("abc"), 64), 64), 64)
	b, e := Encode(v)
	if e != api.OK {
		t.Fatal(e)
	}
	w, e := Decode(b)
	if e != api.OK || !Same(v, w) {
		t.Fatal(e)
	}
	refused(t, b[:len(b)-1], api.ErrShort)
	refused(t, append(b, 0), api.ErrForm)
}
