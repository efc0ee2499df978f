package class

import (
	"bytes"
	"math"
	"reflect"
	"slices"
	"testing"

	"tenon/api"
	"tenon/code"
	"tenon/faces"
	"tenon/guid"
)

// Instructions, short.
var (
	arg    = api.Instr{Op: api.CodeArg}
	load   = api.Instr{Op: api.CodeLoad}
	store  = api.Instr{Op: api.CodeStore}
	neg    = api.Instr{Op: api.CodeNeg}
	finish = api.Instr{Op: api.CodeReturn}
)

func push(n int) api.Instr { return api.Instr{Op: api.CodePush, A: n} }

func skip(n int) api.Instr { return api.Instr{Op: api.CodeSkip, A: n} }

func put(slot int) api.Instr { return api.Instr{Op: api.CodePut, A: slot} }

func drop(slot int) api.Instr { return api.Instr{Op: api.CodeDrop, A: slot} }

func call(slot, method int) api.Instr { return api.Instr{Op: api.CodeCall, A: slot, B: method} }

// plain is a right method of n instructions, from 2 on.
func plain(n int) []api.Instr {
	return slices.Concat([]api.Instr{arg}, slices.Repeat([]api.Instr{neg}, n-2), []api.Instr{finish})
}

// methods are n right ones, of several lengths.
func methods(n int) [][]api.Instr {
	var l [][]api.Instr
	for i := range n {
		l = append(l, plain(2+i))
	}
	return l
}

// bytesFrom is a row of sixteen rising bytes.
func bytesFrom(first byte) api.Guid {
	var g api.Guid
	for i := range g {
		g[i] = first + byte(i)
	}
	return g
}

// row is a right row of n faces, each made of the one ahead of it.
func row(n int) []api.Face {
	var l []api.Face
	for i := range n {
		l = append(l, api.Face{Id: guid.Of(uint64(i)), Base: i - 1})
	}
	return l
}

// small is a right class with as little as may be.
func small(id uint64) api.Class {
	return api.Class{Id: guid.Of(id), Faces: row(1), Methods: methods(1)}
}

func smalls(n int) []api.Class {
	var l []api.Class
	for i := range n {
		l = append(l, small(uint64(i)))
	}
	return l
}

// every has every instruction, and in each operand something else.
func every() []api.Instr {
	return []api.Instr{push(math.MinInt32), arg, load, {Op: api.CodeAdd}, {Op: api.CodeAdd}, neg, load, load, skip(3), put(1), neg, drop(7), store, call(6, 5), finish}
}

// great is a right class with as much as may be.
func great(id uint64) api.Class {
	c := api.Class{Id: guid.Of(id), Faces: row(api.MaxFaces), Slots: api.MaxSlots}
	for range api.MaxMethods {
		c.Methods = append(c.Methods, plain(api.MaxCode))
	}
	return c
}

// whole has in each field something that isn't zero, and another byte at each place of the longer ones.
func whole(first byte) api.Class {
	return api.Class{
		Id: bytesFrom(first),
		Faces: []api.Face{
			{Id: bytesFrom(first + 16), Base: -1},
			{Id: bytesFrom(first + 32), Base: 0},
			{Id: bytesFrom(first + 48), Base: 0},
			{Id: bytesFrom(first + 64), Base: 2},
		},
		Slots: 8,
		Methods: [][]api.Instr{
			every(),
			{push(0x04030201), finish},
			{push(-2), skip(1), put(2), push(math.MaxInt32), finish},
		},
	}
}

func wholeModule() api.Module {
	return api.Module{Classes: []api.Class{whole(0x10), small(0), whole(0x80), great(1), small(2)}}
}

func rightModules() []api.Module {
	l := []api.Module{wholeModule()}
	of := func(c api.Class) { l = append(l, api.Module{Classes: []api.Class{c}}) }
	for n := 1; n <= api.MaxClasses; n++ {
		l = append(l, api.Module{Classes: smalls(n)})
	}
	for _, c := range rightClasses() {
		of(c)
	}
	for _, n := range []int{0, 1, -1, 2, -2, 127, 128, 255, 256, -255, -256, -257, 65535, 65536, -65536, 1<<24 - 1, 1 << 24, -1 << 24, math.MaxInt32 - 1, math.MaxInt32, math.MinInt32, math.MinInt32 + 1} {
		c := small(3)
		c.Methods[0] = []api.Instr{push(n), finish}
		of(c)
	}
	var eight []api.Class
	for i := range api.MaxClasses {
		eight = append(eight, great(uint64(i)))
	}
	return append(l, api.Module{Classes: eight})
}

// rightClasses are at the edges of each part.
func rightClasses() []api.Class {
	l := []api.Class{small(1), great(2), whole(3)}
	for n := 1; n <= api.MaxFaces; n++ {
		c := small(4)
		c.Faces = row(n)
		l = append(l, c)
	}
	for n := 0; n <= api.MaxSlots; n++ {
		c := small(5)
		c.Slots = n
		l = append(l, c)
	}
	for n := 1; n <= api.MaxMethods; n++ {
		c := small(6)
		c.Methods = methods(n)
		l = append(l, c)
	}
	for n := 2; n <= api.MaxCode; n++ {
		c := small(7)
		c.Methods[0] = plain(n)
		l = append(l, c)
	}
	for n := 1; n <= api.MaxSlots; n++ {
		c := small(8)
		c.Slots = n
		c.Methods[0] = []api.Instr{put(n - 1), drop(n - 1), load, call(n-1, api.MaxMethods-1), finish}
		l = append(l, c)
	}
	return l
}

// change makes any right class wrong, and e is what is then told of it.
type change struct {
	e     api.Errno
	apply func(c *api.Class)
}

func faceChanges() []change {
	return []change{
		{api.ErrTooMany, func(c *api.Class) { c.Faces = nil }},
		{api.ErrTooMany, func(c *api.Class) { c.Faces = []api.Face{} }},
		{api.ErrTooMany, func(c *api.Class) { c.Faces = row(api.MaxFaces + 1) }},
		{api.ErrTooMany, func(c *api.Class) { c.Faces = make([]api.Face, 257) }},
		{api.ErrForm, func(c *api.Class) { c.Faces = []api.Face{{}} }},
		{api.ErrForm, func(c *api.Class) { c.Faces = []api.Face{{Base: -2}} }},
		{api.ErrForm, func(c *api.Class) { c.Faces = []api.Face{{Base: 255}} }},
		{api.ErrForm, func(c *api.Class) { c.Faces = []api.Face{{Base: -1}, {Id: guid.Of(1), Base: -1}} }},
		{api.ErrForm, func(c *api.Class) { c.Faces = []api.Face{{Base: -1}, {Id: guid.Of(1), Base: 1}} }},
		{api.ErrForm, func(c *api.Class) { c.Faces = []api.Face{{Base: -1}, {Id: guid.Of(1), Base: 256}} }},
		{api.ErrThere, func(c *api.Class) { c.Faces = []api.Face{{Base: -1}, {Base: 0}} }},
	}
}

func slotChanges() []change {
	var l []change
	for _, n := range []int{-1, api.MaxSlots + 1, -2, 255, 256, 257, 1 << 32, math.MaxInt, math.MinInt} {
		l = append(l, change{api.ErrArg, func(c *api.Class) { c.Slots = n }})
	}
	return l
}

func countChanges() []change {
	return []change{
		{api.ErrTooMany, func(c *api.Class) { c.Methods = nil }},
		{api.ErrTooMany, func(c *api.Class) { c.Methods = [][]api.Instr{} }},
		{api.ErrTooMany, func(c *api.Class) { c.Methods = methods(api.MaxMethods + 1) }},
		{api.ErrTooMany, func(c *api.Class) { c.Methods = make([][]api.Instr, api.MaxMethods+1) }},
		{api.ErrTooMany, func(c *api.Class) { c.Methods = methods(257) }},
	}
}

// wrongMethods are wrong whatever the slots.
func wrongMethods() map[api.Errno][][]api.Instr {
	return map[api.Errno][][]api.Instr{
		api.ErrTooMany: {nil, {}, plain(api.MaxCode + 1), plain(256 + 2)},
		api.ErrForm:    {{finish}, {arg}, {{}}, {load, skip(1), load, finish}, {push(1 << 31), finish}, {push(math.MinInt32 - 1), finish}, {load, skip(1 << 32), finish}, {put(api.MaxSlots), load, finish}, {put(-1), load, finish}, {load, call(0, api.MaxMethods), finish}, {{Op: api.CodeLoad, A: 1}, finish}, {{Op: api.CodeLoad, B: 1}, finish}, {{Op: 256 + api.CodeLoad}, finish}},
		api.ErrDeep:    {append(slices.Repeat([]api.Instr{load}, api.MaxStack+1), finish)},
	}
}

func methodChanges() []change {
	var l []change
	for _, e := range []api.Errno{api.ErrTooMany, api.ErrForm, api.ErrDeep} {
		for _, m := range wrongMethods()[e] {
			l = append(l, change{e, func(c *api.Class) { c.Methods[len(c.Methods)-1] = m }})
		}
	}
	return l
}

func wrongClasses() []api.Class {
	var l []api.Class
	for _, of := range [][]change{faceChanges(), slotChanges(), countChanges(), methodChanges()} {
		for _, x := range of {
			c := whole(9)
			x.apply(&c)
			l = append(l, c)
		}
	}
	return l
}

// Where the first method of a module begins, whose first class is a small one, and where the operand A of its second instruction is.
const (
	firstMethod   = 1 + 16 + 1 + 17 + 1 + 1
	secondOperand = firstMethod + 1 + 6 + 2
)

// plainForm lays the form once more, part behind part, of right modules.
func plainForm(m api.Module) []byte {
	form := []byte{byte(len(m.Classes))}
	for i := range m.Classes {
		c := &m.Classes[i]
		for k := range 16 {
			form = append(form, c.Id[k])
		}
		form = append(form, byte(len(c.Faces)))
		for _, f := range c.Faces {
			for k := range 16 {
				form = append(form, f.Id[k])
			}
			form = append(form, byte(f.Base+1))
		}
		form = append(form, byte(c.Slots), byte(len(c.Methods)))
		for _, l := range c.Methods {
			form = append(form, byte(len(l)))
			for _, x := range l {
				form = append(form, byte(x.Op), byte(x.B))
				for n, k := x.A, 0; k < 4; n, k = (n-n&255)/256, k+1 {
					form = append(form, byte(n&255))
				}
			}
		}
	}
	return form
}

// plainRead reads what may be a form, whatever its numbers are: by places, of which the one behind the last byte is the last one that is right.
func plainRead(b []byte) (api.Module, bool) {
	at := 0
	next := func() int {
		at++
		if at > len(b) {
			return 0
		}
		return int(b[at-1])
	}
	nextId := func() (g api.Guid) {
		for k := range g {
			g[k] = byte(next())
		}
		return g
	}
	var m api.Module
	for range next() {
		c := api.Class{Id: nextId()}
		for range next() {
			f := api.Face{Id: nextId()}
			f.Base = next() - 1
			c.Faces = append(c.Faces, f)
		}
		c.Slots = next()
		for range next() {
			var l []api.Instr
			for range next() {
				var x api.Instr
				x.Op = next()
				x.B = next()
				x.A = next() + next()<<8 + next()<<16
				if high := next(); high < 128 {
					x.A += high << 24
				} else {
					x.A += (high - 256) << 24
				}
				l = append(l, x)
			}
			c.Methods = append(c.Methods, l)
		}
		m.Classes = append(m.Classes, c)
	}
	_, e := plainCheck(m)
	return m, at == len(b) && e == api.OK
}

// plainCheckClass tells the first one of all errors.
func plainCheckClass(c api.Class) api.Errno {
	var l []api.Errno
	l = append(l, faces.Check(c.Faces))
	if c.Slots != min(max(c.Slots, 0), 8) {
		l = append(l, api.ErrArg)
	}
	if n := len(c.Methods); n == 0 || n > 8 {
		l = append(l, api.ErrTooMany)
	}
	for _, m := range c.Methods {
		_, _, e := code.Check(m, c.Slots)
		l = append(l, e)
	}
	for _, e := range l {
		if e != api.OK {
			return e
		}
	}
	return api.OK
}

func plainCheck(m api.Module) (int, api.Errno) {
	if n := len(m.Classes); n == 0 || n > 8 {
		return 0, api.ErrTooMany
	}
	there := map[api.Guid]int{}
	for i, c := range m.Classes {
		if e := plainCheckClass(c); e != api.OK {
			return i, e
		}
		if there[c.Id]++; there[c.Id] == 2 {
			return i, api.ErrThere
		}
	}
	return 0, api.OK
}

func checked(t *testing.T, c api.Class, want api.Errno) {
	t.Helper()
	if e := CheckClass(c); e != want {
		t.Errorf("CheckClass(%v) = %d, not %d", c, e, want)
	}
}

// right asks all calls that take a whole module.
func right(t *testing.T, m api.Module) {
	t.Helper()
	if i, e := Check(m); i != 0 || e != api.OK {
		t.Errorf("Check(%v) = %d, %d", m, i, e)
	}
	want := plainForm(m)
	b, e := Encode(m)
	if e != api.OK || !bytes.Equal(b, want) {
		t.Errorf("Encode(%v) = % x, %d, not % x", m, b, e, want)
	}
	decoded(t, want, m)
}

func wrong(t *testing.T, m api.Module, wantAt int, want api.Errno) {
	t.Helper()
	if i, e := Check(m); i != wantAt || e != want {
		t.Errorf("Check(%v) = %d, %d, not %d, %d", m, i, e, wantAt, want)
	}
	if b, e := Encode(m); len(b) != 0 || e != want {
		t.Errorf("Encode(%v) = % x, %d, not nothing, %d", m, b, e, want)
	}
}

func decoded(t *testing.T, b []byte, want api.Module) {
	t.Helper()
	if m, e := Decode(b); e != api.OK || !reflect.DeepEqual(m, want) {
		t.Errorf("Decode(% x) = %v, %d, not %v", b, m, e, want)
	}
}

func refused(t *testing.T, b []byte) {
	t.Helper()
	if m, e := Decode(b); e != api.ErrForm || m.Classes != nil {
		t.Errorf("Decode(% x) = %v, %d, not ErrForm", b, m, e)
	}
}

// asPlain asks Decode for what the plain reader reads.
func asPlain(t *testing.T, b []byte) bool {
	t.Helper()
	m, ok := plainRead(b)
	if ok {
		decoded(t, b, m)
	} else {
		refused(t, b)
	}
	return ok
}

// P10.1

func TestRightClasses(t *testing.T) {
	for _, c := range rightClasses() {
		checked(t, c, api.OK)
	}
	checked(t, api.Class{}, api.ErrTooMany)
	// The Id is no matter.
	c := small(0)
	for _, g := range []api.Guid{{}, guid.Of(math.MaxUint64), bytesFrom(0xf0)} {
		c.Id = g
		checked(t, c, api.OK)
	}
}

func TestWrongParts(t *testing.T) {
	for _, of := range [][]change{faceChanges(), slotChanges(), countChanges(), methodChanges()} {
		for _, x := range of {
			for _, c := range []api.Class{whole(9), small(9), great(9)} {
				x.apply(&c)
				checked(t, c, x.e)
			}
		}
	}
}

func TestOrderOfErrors(t *testing.T) {
	groups := [][]change{faceChanges(), slotChanges(), countChanges(), methodChanges()}
	for i, first := range groups {
		for _, second := range groups[i+1:] {
			for _, x := range first {
				for _, y := range second {
					c := whole(9)
					// What is changed later may need what was there ahead.
					y.apply(&c)
					x.apply(&c)
					checked(t, c, x.e)
				}
			}
		}
	}
}

func TestFirstWrongMethod(t *testing.T) {
	all := wrongMethods()
	for first, l := range all {
		for second, k := range all {
			for at := range api.MaxMethods - 1 {
				c := small(1)
				c.Methods = methods(api.MaxMethods)
				c.Methods[at] = l[0]
				checked(t, c, first)
				c.Methods[at+1] = k[0]
				checked(t, c, first)
				c.Methods[at], c.Methods[at+1] = c.Methods[at+1], plain(2)
				checked(t, c, second)
			}
		}
	}
}

func TestMethodsHaveTheClasssSlots(t *testing.T) {
	for slots := 0; slots <= api.MaxSlots; slots++ {
		for slot := range api.MaxSlots {
			want := api.ErrForm
			if slot < slots {
				want = api.OK
			}
			for _, x := range []api.Instr{put(slot), drop(slot), call(slot, 1)} {
				for at := range api.MaxMethods {
					c := small(1)
					c.Slots = slots
					c.Methods = methods(api.MaxMethods)
					c.Methods[at] = []api.Instr{load, x, finish}
					checked(t, c, want)
				}
			}
		}
	}
}

func TestMethodsThatAreNotThereMayBeCalled(t *testing.T) {
	c := small(1)
	c.Slots = 1
	c.Methods[0] = []api.Instr{load, call(0, api.MaxMethods-1), finish}
	checked(t, c, api.OK)
}

func TestHowManyClasses(t *testing.T) {
	wrong(t, api.Module{}, 0, api.ErrTooMany)
	wrong(t, api.Module{Classes: []api.Class{}}, 0, api.ErrTooMany)
	for n := 1; n <= api.MaxClasses; n++ {
		right(t, api.Module{Classes: smalls(n)})
	}
	for _, n := range []int{api.MaxClasses + 1, 255, 256, 257} {
		wrong(t, api.Module{Classes: smalls(n)}, 0, api.ErrTooMany)
		// It is told ahead of what is wrong with one of them.
		wrong(t, api.Module{Classes: make([]api.Class, n)}, 0, api.ErrTooMany)
		l := smalls(n)
		l[1].Slots = -1
		wrong(t, api.Module{Classes: l}, 0, api.ErrTooMany)
	}
}

func TestFirstWrongClass(t *testing.T) {
	for n := 1; n <= api.MaxClasses; n++ {
		for at := range n {
			for _, x := range wrongClasses() {
				l := smalls(n)
				x.Id = guid.Of(99)
				l[at] = x
				wrong(t, api.Module{Classes: l}, at, CheckClass(x))
			}
			// Those behind it are no matter.
			l := smalls(n)
			for i := at; i < n; i++ {
				l[i] = api.Class{}
			}
			l[at] = small(99)
			l[at].Slots = -1
			wrong(t, api.Module{Classes: l}, at, api.ErrArg)
		}
	}
}

func TestClassesOfOneId(t *testing.T) {
	for at := range api.MaxClasses {
		for ahead := range at {
			l := smalls(api.MaxClasses)
			l[at].Id = l[ahead].Id
			wrong(t, api.Module{Classes: l}, at, api.ErrThere)
			// They needn't be alike in anything else.
			l[at] = great(uint64(ahead))
			wrong(t, api.Module{Classes: l}, at, api.ErrThere)
			// What is wrong with the class itself is told first.
			l[at].Slots = -1
			wrong(t, api.Module{Classes: l}, at, api.ErrArg)
			// So is one ahead of it, but not one behind it.
			l = smalls(api.MaxClasses)
			l[at].Id = l[ahead].Id
			l[ahead].Methods = nil
			wrong(t, api.Module{Classes: l}, ahead, api.ErrTooMany)
			l = smalls(api.MaxClasses + 1)[1:]
			l[at].Id = l[ahead].Id
			for i := at + 1; i < len(l); i++ {
				l[i] = api.Class{Id: l[ahead].Id}
			}
			wrong(t, api.Module{Classes: l}, at, api.ErrThere)
		}
	}
	// Ids that are alike but for one byte are two.
	for k := range 16 {
		l := smalls(2)
		l[1].Id = l[0].Id
		l[1].Id[k] ^= 0x80
		right(t, api.Module{Classes: l})
	}
	// The faces of two classes may be alike, and a face's Id may be the class's.
	l := smalls(2)
	l[0].Faces[0].Id, l[1].Faces[0].Id = l[1].Id, l[1].Id
	right(t, api.Module{Classes: l})
}

// P10.2

func TestTheExample(t *testing.T) {
	m := api.Module{Classes: []api.Class{{Id: bytesFrom(0xa0), Faces: []api.Face{{Id: bytesFrom(0xc0), Base: -1}}, Methods: [][]api.Instr{{arg, finish}}}}}
	want := []byte{
		0x01,
		0xa0, 0xa1, 0xa2, 0xa3, 0xa4, 0xa5, 0xa6, 0xa7, 0xa8, 0xa9, 0xaa, 0xab, 0xac, 0xad, 0xae, 0xaf,
		0x01,
		0xc0, 0xc1, 0xc2, 0xc3, 0xc4, 0xc5, 0xc6, 0xc7, 0xc8, 0xc9, 0xca, 0xcb, 0xcc, 0xcd, 0xce, 0xcf,
		0x00,
		0x00,
		0x01,
		0x02,
		0x02, 0x00, 0x00, 0x00, 0x00, 0x00,
		0x0b, 0x00, 0x00, 0x00, 0x00, 0x00,
	}
	if len(want) != 50 {
		t.Fatal(len(want))
	}
	if b, e := Encode(m); e != api.OK || !bytes.Equal(b, want) {
		t.Errorf("% x, %d, not % x", b, e, want)
	}
	decoded(t, want, m)
}

func TestInstructionsAsBytes(t *testing.T) {
	form := func(l ...api.Instr) []byte {
		c := small(1)
		c.Slots = api.MaxSlots
		c.Methods[0] = l
		b, e := Encode(api.Module{Classes: []api.Class{c}})
		if e != api.OK {
			t.Fatal(l, e)
		}
		return b[firstMethod:]
	}
	for n, want := range map[int][]byte{
		0:             {2, 1, 0, 0, 0, 0, 0, 11, 0, 0, 0, 0, 0},
		1:             {2, 1, 0, 1, 0, 0, 0, 11, 0, 0, 0, 0, 0},
		-1:            {2, 1, 0, 0xff, 0xff, 0xff, 0xff, 11, 0, 0, 0, 0, 0},
		-5:            {2, 1, 0, 0xfb, 0xff, 0xff, 0xff, 11, 0, 0, 0, 0, 0},
		0x04030201:    {2, 1, 0, 1, 2, 3, 4, 11, 0, 0, 0, 0, 0},
		-0x04030201:   {2, 1, 0, 0xff, 0xfd, 0xfc, 0xfb, 11, 0, 0, 0, 0, 0},
		math.MaxInt32: {2, 1, 0, 0xff, 0xff, 0xff, 0x7f, 11, 0, 0, 0, 0, 0},
		math.MinInt32: {2, 1, 0, 0, 0, 0, 0x80, 11, 0, 0, 0, 0, 0},
	} {
		if b := form(push(n), finish); !bytes.Equal(b, want) {
			t.Errorf("push %d: % x, not % x", n, b, want)
		}
	}
	want := []byte{
		7,
		3, 0, 0, 0, 0, 0,
		8, 5, 6, 0, 0, 0,
		7, 0, 2, 0, 0, 0,
		9, 0, 7, 0, 0, 0,
		10, 0, 4, 0, 0, 0,
		2, 0, 0, 0, 0, 0,
		11, 0, 0, 0, 0, 0,
	}
	if b := form(load, call(6, 5), skip(2), put(7), drop(4), arg, finish); !bytes.Equal(b, want) {
		t.Errorf("% x, not % x", b, want)
	}
}

func TestRightModules(t *testing.T) {
	for _, m := range rightModules() {
		right(t, m)
	}
}

func TestWrongModulesAreNotLaid(t *testing.T) {
	for _, c := range wrongClasses() {
		for at := range 3 {
			l := smalls(3)
			l[at] = c
			wrong(t, api.Module{Classes: l}, at, CheckClass(c))
		}
	}
}

// inBytes tells of a module's numbers whether they are such as a byte, or four, may have.
func inBytes(m api.Module) bool {
	ok := len(m.Classes) < 256
	for _, c := range m.Classes {
		ok = ok && len(c.Faces) < 256 && len(c.Methods) < 256 && 0 <= c.Slots && c.Slots < 256
		for _, f := range c.Faces {
			ok = ok && -1 <= f.Base && f.Base < 255
		}
		for _, l := range c.Methods {
			ok = ok && len(l) < 256
			for _, x := range l {
				ok = ok && 0 <= x.Op && x.Op < 256 && 0 <= x.B && x.B < 256 && math.MinInt32 <= x.A && x.A <= math.MaxInt32
			}
		}
	}
	return ok
}

func TestWrongModulesAreNotRead(t *testing.T) {
	refused(t, plainForm(api.Module{}))
	refused(t, plainForm(api.Module{Classes: smalls(api.MaxClasses + 1)}))
	refused(t, plainForm(api.Module{Classes: smalls(255)}))
	read := 0
	for _, c := range wrongClasses() {
		for at := range 3 {
			l := smalls(3)
			l[at] = c
			if inBytes(api.Module{Classes: l}) {
				refused(t, plainForm(api.Module{Classes: l}))
				read++
			}
		}
	}
	if read < 60 {
		t.Errorf("only %d have a form", read)
	}
	for at := range api.MaxClasses {
		for ahead := range at {
			l := smalls(api.MaxClasses)
			l[at].Id = l[ahead].Id
			refused(t, plainForm(api.Module{Classes: l}))
		}
	}
}

func TestOperandsThatAreTooGreat(t *testing.T) {
	// Each byte of an operand that is small counts: 1, 256 more and 2^31 more are three.
	for _, l := range [][]api.Instr{
		{load, skip(1), put(0), load, finish},
		{load, put(1), finish},
		{load, drop(1), finish},
		{load, call(1, 1), finish},
		{load, neg, finish},
	} {
		c := small(1)
		c.Slots = 2
		c.Methods[0] = l
		b := plainForm(api.Module{Classes: []api.Class{c}})
		decoded(t, b, api.Module{Classes: []api.Class{c}})
		for k := 1; k < 4; k++ {
			for bit := range 8 {
				x := slices.Clone(b)
				x[secondOperand+k] ^= 1 << bit
				refused(t, x)
			}
		}
	}
}

func TestTooFewBytes(t *testing.T) {
	refused(t, nil)
	refused(t, []byte{})
	for _, m := range rightModules() {
		b := plainForm(m)
		for n := range len(b) {
			refused(t, b[:n])
			// The room behind the length isn't read.
			refused(t, b[:n:n])
		}
	}
}

func TestTooManyBytes(t *testing.T) {
	for _, m := range []api.Module{{Classes: smalls(1)}, {Classes: smalls(api.MaxClasses)}, wholeModule()} {
		b := plainForm(m)
		for n := range 256 {
			refused(t, append(slices.Clone(b), byte(n)))
		}
		refused(t, append(slices.Clone(b), b...))
		refused(t, append(slices.Clone(b), make([]byte, 1000)...))
		refused(t, append([]byte{0}, b...))
		refused(t, b[1:])
	}
}

func TestEachByteTells(t *testing.T) {
	rest := []api.Class{small(1), whole(0x40), small(3)}
	for _, m := range []api.Module{{Classes: smalls(1)}, {Classes: rest}} {
		b := plainForm(m)
		read := 0
		for at := range b {
			for n := range 256 {
				x := slices.Clone(b)
				x[at] = byte(n)
				if asPlain(t, x) {
					read++
				}
			}
		}
		if read <= len(b)+16*255 {
			t.Errorf("only %d were read", read)
		}
	}
}

func TestCounts(t *testing.T) {
	// Each count, as it is and with all that is counted put there or taken away.
	for n := range 256 {
		c := small(1)
		c.Faces = row(n)
		asPlain(t, plainForm(api.Module{Classes: []api.Class{c, small(2)}}))
		c = small(1)
		c.Methods = slices.Repeat([][]api.Instr{plain(2)}, n)
		asPlain(t, plainForm(api.Module{Classes: []api.Class{c, small(2)}}))
		c = small(1)
		c.Methods[0] = slices.Repeat([]api.Instr{neg}, n)
		if n > 1 {
			c.Methods[0] = plain(n)
		}
		asPlain(t, plainForm(api.Module{Classes: []api.Class{c, small(2)}}))
		asPlain(t, plainForm(api.Module{Classes: smalls(n)}))
	}
}

func TestShortRows(t *testing.T) {
	for a := range 256 {
		refused(t, []byte{byte(a)})
		for b := range 256 {
			refused(t, []byte{byte(a), byte(b)})
		}
	}
	for n := range 1000 {
		refused(t, make([]byte, n))
		refused(t, bytes.Repeat([]byte{1}, n))
		refused(t, bytes.Repeat([]byte{0xff}, n))
	}
	refused(t, make([]byte, 1<<24))
	refused(t, bytes.Repeat([]byte{0xff}, 1<<24))
}

// P10.3

func TestFind(t *testing.T) {
	for n := range 20 {
		m := api.Module{Classes: smalls(n)}
		for i := range 25 {
			place, e := Find(m, guid.Of(uint64(i)))
			if i < n && (place != i || e != api.OK) || i >= n && (place != 0 || e != api.ErrClass) {
				t.Errorf("Find(%d) of %d: %d, %d", i, n, place, e)
			}
		}
	}
	// The first one is found, and nothing else need be right.
	m := api.Module{Classes: []api.Class{{Id: guid.Of(1), Slots: -1}, {}, {Id: guid.Of(1)}, {}, {Id: bytesFrom(1)}}}
	for id, want := range map[api.Guid]int{guid.Of(1): 0, {}: 1, bytesFrom(1): 4} {
		if i, e := Find(m, id); i != want || e != api.OK {
			t.Errorf("Find(%v) = %d, %d, not %d", id, i, e, want)
		}
	}
	for k := range 16 {
		id := bytesFrom(1)
		id[k] ^= 1
		if i, e := Find(m, id); i != 0 || e != api.ErrClass {
			t.Errorf("Find(%v) = %d, %d", id, i, e)
		}
	}
	// A face's Id isn't the class's.
	if i, e := Find(api.Module{Classes: []api.Class{whole(1)}}, bytesFrom(17)); i != 0 || e != api.ErrClass {
		t.Errorf("%d, %d", i, e)
	}
}

func TestMethod(t *testing.T) {
	for n := range 12 {
		c := api.Class{Slots: -1, Methods: methods(n)}
		for i := range n {
			if l, e := Method(c, i); e != api.OK || !slices.Equal(l, plain(2+i)) {
				t.Errorf("Method(%d) of %d: %v, %d", i, n, l, e)
			}
		}
		for _, i := range []int{-1, n, n + 1, -2, 256, 1 << 32, -1 << 32, math.MaxInt, math.MinInt} {
			if i >= 0 && i < n {
				continue
			}
			if l, e := Method(c, i); len(l) != 0 || e != api.ErrMethod {
				t.Errorf("Method(%d) of %d: %v, %d", i, n, l, e)
			}
		}
	}
	// A method needn't be right.
	c := api.Class{Methods: [][]api.Instr{nil, {}, {{Op: -1, A: math.MaxInt, B: math.MinInt}}}}
	for i, want := range c.Methods {
		if l, e := Method(c, i); e != api.OK || !slices.Equal(l, want) {
			t.Errorf("Method(%d): %v, %d", i, l, e)
		}
	}
}

// P1: R4, R6

// deep is a copy that shares nothing, with a room behind each list.
func deep(m api.Module) api.Module {
	var l []api.Class
	for _, c := range m.Classes {
		c.Faces = withRoom(c.Faces)
		c.Methods = withRoom(c.Methods)
		for i := range c.Methods {
			c.Methods[i] = withRoom(c.Methods[i])
		}
		l = append(l, c)
	}
	return api.Module{Classes: withRoom(l)}
}

func withRoom[T any](l []T) []T {
	return append(make([]T, 0, len(l)+1), l...)
}

// fillRoom sets what stands in the room behind each list of what deep answers.
func fillRoom(m api.Module) {
	behind(m.Classes)[0] = small(77)
	for _, c := range m.Classes {
		behind(c.Faces)[0] = api.Face{Id: guid.Of(78), Base: 79}
		behind(c.Methods)[0] = plain(3)
		for _, l := range c.Methods {
			behind(l)[0] = push(80)
		}
	}
}

func behind[T any](l []T) []T {
	return l[len(l) : len(l)+1]
}

func roomIsLeft(m api.Module) bool {
	ok := reflect.DeepEqual(behind(m.Classes)[0], small(77))
	for _, c := range m.Classes {
		ok = ok && behind(c.Faces)[0] == api.Face{Id: guid.Of(78), Base: 79}
		ok = ok && slices.Equal(behind(c.Methods)[0], plain(3))
		for _, l := range c.Methods {
			ok = ok && behind(l)[0] == push(80)
		}
	}
	return ok
}

func TestWhatIsHandedInIsLeft(t *testing.T) {
	modules := rightModules()
	for _, c := range wrongClasses() {
		modules = append(modules, api.Module{Classes: []api.Class{small(1), c}})
	}
	for _, m := range modules {
		x := deep(m)
		fillRoom(x)
		Check(x)
		Encode(x)
		Find(x, guid.Of(77))
		Find(x, guid.Of(1))
		for _, c := range x.Classes {
			CheckClass(c)
			for i := range c.Methods {
				Method(c, i)
			}
			if _, e := Method(c, len(c.Methods)); e != api.ErrMethod {
				t.Errorf("the room behind %v was read", c.Methods)
			}
		}
		if !reflect.DeepEqual(x, deep(m)) || !roomIsLeft(x) {
			t.Errorf("%v became %v", m, x)
		}
		if i, e := Find(x, guid.Of(77)); i != 0 || e != api.ErrClass {
			t.Errorf("the room behind the classes was read: %d, %d", i, e)
		}
	}
	for _, m := range rightModules() {
		b := plainForm(m)
		x := append(make([]byte, 0, len(b)+1), b...)
		behind(x)[0] = 99
		decoded(t, x, m)
		if !bytes.Equal(x, b) || behind(x)[0] != 99 {
			t.Errorf("% x became % x", b, x)
		}
	}
}

func TestAnswersAreNewMemory(t *testing.T) {
	m := wholeModule()
	want := plainForm(m)
	b, _ := Encode(m)
	again, _ := Encode(m)
	for i := range b {
		b[i]++
	}
	if !bytes.Equal(again, want) || !reflect.DeepEqual(m, wholeModule()) {
		t.Error("Encode's answers are shared")
	}

	x, _ := Decode(want)
	y, _ := Decode(want)
	want[1]++
	for i := range want {
		want[i]++
	}
	if !reflect.DeepEqual(x, m) {
		t.Error("Decode keeps the bytes")
	}
	spoil(y)
	if !reflect.DeepEqual(x, m) {
		t.Error("Decode's answers are shared")
	}

	c := whole(1)
	l, _ := Method(c, 0)
	l[0] = finish
	l = append(l[:1], finish)
	if !reflect.DeepEqual(c, whole(1)) {
		t.Error("Method's answer is shared")
	}
	l, _ = Method(c, 1)
	c.Methods[1][0] = finish
	if !slices.Equal(l, whole(1).Methods[1]) {
		t.Error("Method's answer is shared")
	}
}

// spoil changes all that is there, and what stands behind each list, if there is room.
func spoil(m api.Module) {
	for i := range m.Classes {
		c := &m.Classes[i]
		for k := range c.Faces {
			c.Faces[k].Id[0]++
			_ = append(c.Faces[:k], api.Face{})
		}
		for k, l := range c.Methods {
			for j := range l {
				l[j].A++
			}
			_ = append(l, finish)
			c.Methods[k] = nil
			_ = append(c.Methods, l)
		}
		c.Faces = nil
	}
}

func TestListsOfOneAnswerAreNotShared(t *testing.T) {
	m := api.Module{Classes: []api.Class{small(1), small(2)}}
	m.Classes[0].Methods = [][]api.Instr{plain(2), plain(2), plain(2)}
	x, _ := Decode(plainForm(m))
	for i := range 3 {
		_ = append(x.Classes[0].Methods[i], put(9), put(9), put(9))
	}
	_ = append(x.Classes[0].Faces, api.Face{Base: 99}, api.Face{Base: 99})
	if !reflect.DeepEqual(x, m) {
		t.Errorf("%v", x)
	}
	x.Classes[0].Methods[0][0] = put(9)
	x.Classes[0].Faces[0].Base = 99
	if !reflect.DeepEqual(x.Classes[0].Methods[1:], m.Classes[0].Methods[1:]) || !reflect.DeepEqual(x.Classes[1], m.Classes[1]) {
		t.Errorf("%v", x)
	}
}

// Any modules, any bytes

type dice uint32

// below is one of the numbers from 0 on, less than n.
func (d *dice) below(n int) int {
	*d = *d*1664525 + 1013904223
	return int(uint64(*d>>1) * uint64(n) >> 31)
}

// class is one of those, changed now and then.
func (d *dice) class(of []api.Class) api.Class {
	c := of[d.below(len(of))]
	c.Id = guid.Of(uint64(d.below(12)))
	c.Methods = slices.Clone(c.Methods)
	all := [][]change{faceChanges(), slotChanges(), countChanges(), methodChanges()}
	for len(c.Methods) > 0 && d.below(12) == 0 {
		l := all[d.below(len(all))]
		l[d.below(len(l))].apply(&c)
	}
	return c
}

func TestAnyModules(t *testing.T) {
	var d dice = 1
	of := rightClasses()
	seen := map[api.Errno]int{}
	for range 6000 {
		var m api.Module
		for range d.below(api.MaxClasses + 2) {
			m.Classes = append(m.Classes, d.class(of))
		}
		for _, c := range m.Classes {
			checked(t, c, plainCheckClass(c))
		}
		at, e := plainCheck(m)
		seen[e]++
		if e == api.OK {
			right(t, m)
		} else {
			wrong(t, m, at, e)
		}
	}
	for _, e := range []api.Errno{api.OK, api.ErrTooMany, api.ErrThere, api.ErrArg, api.ErrForm, api.ErrDeep} {
		if seen[e] < 10 {
			t.Errorf("%d was seen only %d times", e, seen[e])
		}
	}
}

func TestAnyBytes(t *testing.T) {
	var d dice = 2
	forms := rightModules()
	read := 0
	for range 30000 {
		b := plainForm(forms[d.below(len(forms)-1)])
		for range 1 + d.below(3) {
			at := d.below(len(b))
			switch d.below(4) {
			case 0:
				b[at] = byte(d.below(256))
			case 1:
				b[at] = byte(int(b[at]) + d.below(3) - 1)
			case 2:
				b = slices.Insert(b, at, byte(d.below(4)))
			case 3:
				if len(b) > 1 {
					b = slices.Delete(b, at, at+1)
				}
			}
		}
		if asPlain(t, b) {
			read++
		}
	}
	if read < 1000 {
		t.Errorf("only %d were read", read)
	}
	for range 100000 {
		b := make([]byte, d.below(64))
		for i := range b {
			b[i] = byte(d.below(3))
		}
		asPlain(t, b)
	}
}
