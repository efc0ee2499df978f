package packet

import (
	"bytes"
	"encoding/binary"
	"math"
	"reflect"
	"slices"
	"testing"

	"tenon/api"
	"tenon/guid"
)

// edges are numbers whose highest and lowest bytes differ.
var (
	longs  = []uint64{0, 1, 2, 0xff, 0x100, math.MaxUint32, math.MaxUint32 + 1, 0x0807060504030201, 1<<63 - 1, 1 << 63, math.MaxUint64}
	signed = []int64{0, 1, -1, 2, -2, 0xff, 0x100, math.MaxInt32, math.MinInt32, math.MaxUint32, math.MaxUint32 + 1, 0x0807060504030201, math.MaxInt64 - 1, math.MaxInt64, math.MinInt64, math.MinInt64 + 1}
	// counts are those that a PackAddRef and a PackRelease may have.
	counts   = []int64{1, 2, 0xff, 0x100, 0x04030201, math.MaxInt32, 1 << 31, math.MaxUint32 - 1, math.MaxUint32}
	noCounts = []int64{0, -1, -2, math.MinInt32, -math.MaxUint32, math.MaxUint32 + 1, math.MaxUint32 + 2, 1 << 33, math.MaxInt64, math.MinInt64, math.MinInt64 + 1}
	// wild are numbers that no small field may be, some of which have a right lowest byte.
	wild  = []int{math.MinInt, math.MinInt + 1, -1 << 32, -256, -255, -2, -1, 0xff, 256, 257, 258, 1 << 16, 1<<16 + 1, 1 << 32, 1<<32 + 1, math.MaxInt - 1, math.MaxInt}
	kinds = []int{api.PackCall, api.PackReply, api.PackAddRef, api.PackRelease, api.PackPing}
)

// bytesFrom is a row of sixteen rising bytes.
func bytesFrom(first byte) api.Guid {
	var g api.Guid
	for i := range g {
		g[i] = first + byte(i)
	}
	return g
}

// whole has in each field something that isn't zero, and another byte at each place of the longer ones.
func whole(kind int) api.Packet {
	p := api.Packet{Kind: kind, From: 2, To: 3, Seq: 0x0807060504030201}
	switch kind {
	case api.PackCall:
		p.Call, p.Ipid, p.Method, p.N, p.Ref = 0x1817161514131211, bytesFrom(0x20), 7, 0x3837363534333231, []api.Objref{wholeRef()}
	case api.PackReply:
		p.Call, p.Code, p.N = 0x1817161514131211, 20, 0x3837363534333231
	case api.PackAddRef, api.PackRelease:
		p.Ipid, p.N = bytesFrom(0x20), 0x34333231
	}
	return p
}

func wholeRef() api.Objref {
	return api.Objref{Refs: 0x44434241, Oxid: 0x5857565554535251, Oid: 0x6867666564636261, Ipid: bytesFrom(0x70), Iid: bytesFrom(0x80)}
}

func rightRefs() []api.Objref {
	return []api.Objref{{Refs: 1}, {Refs: math.MaxUint32}, {Flags: 1}, {Flags: 2}, {Flags: 2, Oxid: math.MaxUint64}, wholeRef()}
}

func wrongRefs() []api.Objref {
	return []api.Objref{{}, {Flags: 1, Refs: 1}, {Flags: 2, Refs: 1}, {Flags: 3}, {Flags: 3, Refs: 1}, {Flags: math.MaxUint32}, {Oxid: 1, Oid: 2, Ipid: guid.Of(3), Iid: guid.Of(4)}}
}

// rightOnes are right, the edges of all fields of all kinds among them.
func rightOnes() []api.Packet {
	var l []api.Packet
	add := func(kind int, change func(p *api.Packet)) {
		p := whole(kind)
		change(&p)
		l = append(l, p)
	}
	for _, k := range kinds {
		add(k, func(p *api.Packet) {})
		for from := range api.MaxHomes {
			for to := range api.MaxHomes {
				if from != to {
					add(k, func(p *api.Packet) { p.From, p.To = from, to })
				}
			}
		}
		for _, n := range longs {
			add(k, func(p *api.Packet) { p.Seq = n })
		}
	}
	for _, k := range []int{api.PackCall, api.PackReply} {
		l = append(l, api.Packet{Kind: k, To: 1}, api.Packet{Kind: k, From: 1})
		for _, n := range longs {
			add(k, func(p *api.Packet) { p.Call = n })
		}
		for _, n := range signed {
			add(k, func(p *api.Packet) { p.N = n })
		}
	}
	for n := range 8 {
		add(api.PackCall, func(p *api.Packet) { p.Method = n })
	}
	for n := range 21 {
		add(api.PackReply, func(p *api.Packet) { p.Code = api.Errno(n) })
	}
	for _, k := range []int{api.PackCall, api.PackAddRef, api.PackRelease} {
		add(k, func(p *api.Packet) { p.Ipid = api.Guid{} })
		for i := range 16 {
			add(k, func(p *api.Packet) { p.Ipid = api.Guid{}; p.Ipid[i] = 0x80 })
		}
	}
	for _, k := range []int{api.PackAddRef, api.PackRelease} {
		for _, n := range counts {
			add(k, func(p *api.Packet) { p.N = n })
		}
	}
	add(api.PackCall, func(p *api.Packet) { p.Ref = nil })
	add(api.PackCall, func(p *api.Packet) { p.Ref = []api.Objref{} })
	for _, x := range rightRefs() {
		add(api.PackCall, func(p *api.Packet) { p.Ref = []api.Objref{x} })
		l = append(l, api.Packet{Kind: api.PackCall, To: 1, Ref: []api.Objref{x}})
	}
	return append(l, api.Packet{Kind: api.PackPing, To: 1}, api.Packet{Kind: api.PackPing, From: 1}, api.Packet{Kind: api.PackAddRef, To: 1, N: 1}, api.Packet{Kind: api.PackRelease, From: 3, N: 1})
}

// wrongOnes are wrong in one field each.
func wrongOnes() []api.Packet {
	l := []api.Packet{{}, {From: 1}, {To: 1}}
	add := func(kind int, change func(p *api.Packet)) {
		p := whole(kind)
		change(&p)
		bare := api.Packet{Kind: kind, To: 1}
		if kind == api.PackAddRef || kind == api.PackRelease {
			bare.N = 1
		}
		change(&bare)
		l = append(l, p, bare)
	}
	for _, k := range kinds {
		for _, n := range append([]int{0, 6, 7}, wild...) {
			add(k, func(p *api.Packet) { p.Kind = n })
		}
		for n := range api.MaxHomes {
			add(k, func(p *api.Packet) { p.From, p.To = n, n })
		}
		for _, n := range append([]int{4, 5}, wild...) {
			add(k, func(p *api.Packet) { p.From = n })
			add(k, func(p *api.Packet) { p.To = n })
			add(k, func(p *api.Packet) { p.From, p.To = n, n })
			add(k, func(p *api.Packet) { p.From, p.To = n, n-1 })
		}
		for _, x := range append(rightRefs(), wrongRefs()...) {
			add(k, func(p *api.Packet) { p.Ref = []api.Objref{x, {Refs: 1}} })
			add(k, func(p *api.Packet) { p.Ref = []api.Objref{{Refs: 1}, x} })
			add(k, func(p *api.Packet) { p.Ref = slices.Repeat([]api.Objref{x}, 65) })
			if k != api.PackCall {
				add(k, func(p *api.Packet) { p.Ref = []api.Objref{x} })
			}
		}
		for _, n := range append([]int{21, 22}, wild...) {
			add(k, func(p *api.Packet) { p.Code = api.Errno(n) })
		}
		for _, n := range append([]int{8, 9}, wild...) {
			add(k, func(p *api.Packet) { p.Method = n })
		}
	}
	for _, x := range wrongRefs() {
		add(api.PackCall, func(p *api.Packet) { p.Ref = []api.Objref{x} })
	}
	for _, k := range []int{api.PackAddRef, api.PackRelease} {
		for _, n := range noCounts {
			add(k, func(p *api.Packet) { p.N = n })
		}
	}
	return append(l, notNamed()...)
}

// notNamed are wrong, because they have one field more than their kind's row names.
func notNamed() []api.Packet {
	var l []api.Packet
	add := func(change func(p *api.Packet), kinds ...int) {
		for _, k := range kinds {
			p := whole(k)
			change(&p)
			l = append(l, p)
		}
	}
	for _, n := range longs[1:] {
		add(func(p *api.Packet) { p.Call = n }, api.PackAddRef, api.PackRelease, api.PackPing)
	}
	for i := range 16 {
		for _, n := range []byte{1, 0x80, 0xff} {
			add(func(p *api.Packet) { p.Ipid[i] = n }, api.PackReply, api.PackPing)
		}
	}
	for n := range 7 {
		add(func(p *api.Packet) { p.Method = n + 1 }, api.PackReply, api.PackAddRef, api.PackRelease, api.PackPing)
	}
	for n := range 20 {
		add(func(p *api.Packet) { p.Code = api.Errno(n + 1) }, api.PackCall, api.PackAddRef, api.PackRelease, api.PackPing)
	}
	for _, n := range signed[1:] {
		add(func(p *api.Packet) { p.N = n }, api.PackPing)
	}
	return l
}

func plainPad(b []byte) []byte {
	for len(b)%8 != 0 {
		b = append(b, 0)
	}
	return b
}

// plainForm goes by the chapter's words, and doesn't ask whether p is right. Of what is no kind it lays what all have.
func plainForm(p api.Packet) []byte {
	b := plainPad([]byte{byte(p.Kind), byte(p.From), byte(p.To)})
	b = binary.LittleEndian.AppendUint64(b, p.Seq)
	if p.Kind == api.PackCall || p.Kind == api.PackReply {
		b = binary.LittleEndian.AppendUint64(b, p.Call)
	}
	if p.Kind == api.PackCall || p.Kind == api.PackAddRef || p.Kind == api.PackRelease {
		b = append(b, p.Ipid[:]...)
	}
	switch p.Kind {
	case api.PackCall:
		b = append(b, byte(p.Method))
	case api.PackReply:
		b = append(b, byte(p.Code))
	}
	if api.PackCall <= p.Kind && p.Kind < api.PackPing {
		b = binary.LittleEndian.AppendUint64(plainPad(b), uint64(p.N))
	}
	if p.Kind == api.PackCall {
		b = binary.LittleEndian.AppendUint64(b, uint64(len(p.Ref)))
		for _, x := range p.Ref {
			b = append(b, plainRef(x)...)
		}
	}
	return b
}

// plainRef is an Objref's form by the words of chapter 7.
func plainRef(x api.Objref) []byte {
	b := []byte{0x4d, 0x45, 0x4f, 0x57}
	b = binary.LittleEndian.AppendUint32(b, x.Flags)
	b = binary.LittleEndian.AppendUint32(b, x.Refs)
	b = append(b, 0, 0, 0, 0)
	b = binary.LittleEndian.AppendUint64(b, x.Oxid)
	b = binary.LittleEndian.AppendUint64(b, x.Oid)
	b = append(b, x.Ipid[:]...)
	return append(b, x.Iid[:]...)
}

// equal doesn't go by what is tested here.
func equal(a, b api.Packet) bool {
	if len(a.Ref) == 0 && len(b.Ref) == 0 {
		a.Ref, b.Ref = nil, nil
	}
	return reflect.DeepEqual(a, b)
}

func encoded(t *testing.T, p api.Packet, want []byte) {
	t.Helper()
	if e := Check(p); e != api.OK {
		t.Errorf("Check(%v) = %v", p, e)
	}
	if b, e := Encode(p); !bytes.Equal(b, want) || e != api.OK {
		t.Errorf("Encode(%v) = % x, %v, not % x", p, b, e, want)
	}
}

// notEncoded: R3 too, with an error there are no bytes.
func notEncoded(t *testing.T, p api.Packet) {
	t.Helper()
	if e := Check(p); e != api.ErrForm {
		t.Errorf("Check(%v) = %v", p, e)
	}
	if b, e := Encode(p); len(b) != 0 || e != api.ErrForm {
		t.Errorf("Encode(%v) = % x, %v", p, b, e)
	}
}

func decoded(t *testing.T, b []byte, want api.Packet) {
	t.Helper()
	if p, e := Decode(b); !equal(p, want) || e != api.OK {
		t.Errorf("Decode(% x) = %v, %v, not %v", b, p, e, want)
	}
}

// refused: R3 too, with an error there is no packet.
func refused(t *testing.T, b []byte) {
	t.Helper()
	if p, e := Decode(b); !equal(p, api.Packet{}) || e != api.ErrForm {
		t.Errorf("Decode(% x) = %v, %v", b, p, e)
	}
}

// P8.1

func TestTheExample(t *testing.T) {
	want := []byte{5, 0, 1, 0, 0, 0, 0, 0, 2, 0, 0, 0, 0, 0, 0, 0}
	p := api.Packet{Kind: api.PackPing, To: 1, Seq: 2}
	encoded(t, p, want)
	decoded(t, want, p)
}

func TestEachFieldHasItsPlace(t *testing.T) {
	seq := []byte{0, 0, 0, 0, 0, 1, 2, 3, 4, 5, 6, 7, 8}
	call := []byte{0x11, 0x12, 0x13, 0x14, 0x15, 0x16, 0x17, 0x18}
	ipid := []byte{0x20, 0x21, 0x22, 0x23, 0x24, 0x25, 0x26, 0x27, 0x28, 0x29, 0x2a, 0x2b, 0x2c, 0x2d, 0x2e, 0x2f}
	n := []byte{0x31, 0x32, 0x33, 0x34, 0x35, 0x36, 0x37, 0x38}
	ref := []byte{0x4d, 0x45, 0x4f, 0x57, 0, 0, 0, 0, 0x41, 0x42, 0x43, 0x44, 0, 0, 0, 0,
		0x51, 0x52, 0x53, 0x54, 0x55, 0x56, 0x57, 0x58, 0x61, 0x62, 0x63, 0x64, 0x65, 0x66, 0x67, 0x68}
	for i := range 16 {
		ref = append(ref, byte(0x70+i))
	}
	for i := range 16 {
		ref = append(ref, byte(0x80+i))
	}
	for kind, want := range map[int][]byte{
		api.PackCall:    slices.Concat([]byte{1, 2, 3}, seq, call, ipid, []byte{7, 0, 0, 0, 0, 0, 0, 0}, n, []byte{1, 0, 0, 0, 0, 0, 0, 0}, ref),
		api.PackReply:   slices.Concat([]byte{2, 2, 3}, seq, call, []byte{20, 0, 0, 0, 0, 0, 0, 0}, n),
		api.PackAddRef:  slices.Concat([]byte{3, 2, 3}, seq, ipid, n[:4], []byte{0, 0, 0, 0}),
		api.PackRelease: slices.Concat([]byte{4, 2, 3}, seq, ipid, n[:4], []byte{0, 0, 0, 0}),
		api.PackPing:    slices.Concat([]byte{5, 2, 3}, seq),
	} {
		encoded(t, whole(kind), want)
		decoded(t, want, whole(kind))
	}
}

func TestNumbersBelowZero(t *testing.T) {
	for _, kind := range []int{api.PackCall, api.PackReply} {
		p := whole(kind)
		p.N, p.Ref = -2, nil
		want := plainForm(whole(kind))
		at := 48
		if kind == api.PackReply {
			at = 32
		}
		copy(want[at:], []byte{0xfe, 0xff, 0xff, 0xff, 0xff, 0xff, 0xff, 0xff, 0})
		want = want[:min(len(want), 64)]
		encoded(t, p, want)
		decoded(t, want, p)
	}
}

func TestRightOnes(t *testing.T) {
	for _, p := range rightOnes() {
		encoded(t, p, plainForm(p))
	}
}

func TestLengths(t *testing.T) {
	for _, p := range rightOnes() {
		want := map[int]int{api.PackCall: 64 + 64*len(p.Ref), api.PackReply: 40, api.PackAddRef: 40, api.PackRelease: 40, api.PackPing: 16}[p.Kind]
		if b, _ := Encode(p); len(b) != want {
			t.Errorf("Encode(%v) has %d bytes, not %d", p, len(b), want)
		}
	}
}

func TestWrongOnes(t *testing.T) {
	for _, p := range wrongOnes() {
		notEncoded(t, p)
	}
}

// What is named of one kind is not asked of another one: small numbers in all fields at once.
func TestSmallFields(t *testing.T) {
	right := map[int]int{}
	ref := []api.Objref{{Refs: 1}}
	for i := range 7 * 3 * 3 * 3 * 3 * 3 * 3 * 2 {
		next := func(n int) int {
			digit := i % n
			i /= n
			return digit
		}
		p := api.Packet{Kind: next(7), From: next(3), To: next(3) + 2, Call: uint64(next(3)), Ipid: guid.Of(uint64(next(3))), Method: next(3), N: int64(next(3)) - 1, Code: api.Errno(next(2))}
		for _, p.Ref = range [][]api.Objref{nil, {}, ref} {
			want := p.From != p.To && p.To < 4
			switch p.Kind {
			case api.PackCall:
				want = want && p.Code == 0
			case api.PackReply:
				want = want && p.Ipid == api.Guid{} && p.Method == 0 && len(p.Ref) == 0
			case api.PackAddRef, api.PackRelease:
				want = want && p.Call == 0 && p.Method == 0 && p.Code == 0 && len(p.Ref) == 0 && p.N > 0
			case api.PackPing:
				want = want && p.Call == 0 && p.Ipid == api.Guid{} && p.Method == 0 && p.Code == 0 && len(p.Ref) == 0 && p.N == 0
			default:
				want = false
			}
			if got := Check(p) == api.OK; got != want {
				t.Fatalf("Check(%v) = %v", p, Check(p))
			}
			if want {
				right[p.Kind]++
			}
		}
	}
	for _, k := range kinds {
		if right[k] == 0 {
			t.Error(k)
		}
	}
}

// P8.2

func TestDecodeRightOnes(t *testing.T) {
	for _, p := range rightOnes() {
		decoded(t, plainForm(p), p)
	}
}

// inBytes tells whether the small fields of p have room in the bytes of its form, and whether there are no others.
func inBytes(p api.Packet) bool {
	named := map[int]api.Packet{
		api.PackCall:    {Call: p.Call, Ipid: p.Ipid, Method: p.Method, N: p.N, Ref: p.Ref},
		api.PackReply:   {Call: p.Call, Code: p.Code, N: p.N},
		api.PackAddRef:  {Ipid: p.Ipid, N: p.N},
		api.PackRelease: {Ipid: p.Ipid, N: p.N},
		api.PackPing:    {},
	}[p.Kind]
	named.Kind, named.From, named.To, named.Seq = p.Kind, p.From, p.To, p.Seq
	for _, n := range []int{p.Kind, p.From, p.To, p.Method, int(p.Code)} {
		if n < 0 || n > 255 {
			return false
		}
	}
	return equal(named, p)
}

func TestDecodeWrongOnes(t *testing.T) {
	asked := 0
	for _, p := range wrongOnes() {
		if inBytes(p) {
			refused(t, plainForm(p))
			asked++
		}
	}
	if asked < 300 {
		t.Error(asked)
	}
}

func TestTooFewBytes(t *testing.T) {
	refused(t, nil)
	refused(t, []byte{})
	for _, k := range kinds {
		b := plainForm(whole(k))
		for n := range len(b) {
			refused(t, b[:n])
			refused(t, b[len(b)-n:])
			refused(t, make([]byte, n))
			refused(t, bytes.Repeat([]byte{byte(k)}, n))
		}
	}
}

func TestTooManyBytes(t *testing.T) {
	for _, p := range rightOnes() {
		b := plainForm(p)
		for _, more := range [][]byte{{0}, {1}, make([]byte, 5), make([]byte, 8), make([]byte, 64), plainRef(wholeRef()), b, make([]byte, 1<<12)} {
			refused(t, slices.Concat(b, more))
			refused(t, slices.Concat(more, b))
		}
	}
	refused(t, append(plainForm(whole(api.PackPing)), make([]byte, 1<<24)...))
}

// How many Objrefs there are, and which bytes are there, go together.
func TestHowManyRefs(t *testing.T) {
	one := plainForm(whole(api.PackCall))
	none := slices.Clone(one[:64])
	none[56] = 0
	p := whole(api.PackCall)
	p.Ref = nil
	decoded(t, none, p)
	for end := 65; end <= 128; end++ {
		refused(t, one[:end-1])
		refused(t, slices.Concat(none, one[64:end]))
	}
	for _, n := range longs {
		binary.LittleEndian.PutUint64(none[56:], n)
		for times := range 4 {
			b := slices.Concat(none, bytes.Repeat(one[64:], times))
			switch {
			case n == 0 && times == 0:
				decoded(t, b, p)
			case n == 1 && times == 1:
				decoded(t, b, whole(api.PackCall))
			default:
				refused(t, b)
			}
		}
	}
	// As many as the length says, but more than one.
	for n := 2; n < 70; n++ {
		binary.LittleEndian.PutUint64(none[56:], uint64(n))
		refused(t, slices.Concat(none, bytes.Repeat(one[64:], n)))
	}
}

func TestWrongRefs(t *testing.T) {
	head := plainForm(whole(api.PackCall))[:64]
	for _, x := range wrongRefs() {
		refused(t, slices.Concat(head, plainRef(x)))
	}
	for _, x := range rightRefs() {
		p := whole(api.PackCall)
		p.Ref = []api.Objref{x}
		decoded(t, slices.Concat(head, plainRef(x)), p)
	}
	refused(t, slices.Concat(head, make([]byte, 64)))
	refused(t, slices.Concat(head, bytes.Repeat([]byte{0xff}, 64)))
}

// Each byte with each value: another packet whose form the row is, or none.
func TestEachByteTells(t *testing.T) {
	rows := rightOnes()[:0:0]
	for _, k := range kinds {
		rows = append(rows, whole(k))
	}
	rows = append(rows, api.Packet{Kind: api.PackCall, To: 1}, api.Packet{Kind: api.PackReply, To: 1}, api.Packet{Kind: api.PackAddRef, To: 1, N: 1}, api.Packet{Kind: api.PackRelease, To: 1, Ipid: guid.Of(1), N: 1}, api.Packet{Kind: api.PackPing, To: 1})
	for _, p := range rows {
		right := plainForm(p)
		told := 0
		for at := range right {
			for n := range 256 {
				b := slices.Clone(right)
				b[at] = byte(n)
				q, e := Decode(b)
				switch {
				case b[at] == right[at]:
					decoded(t, b, p)
				case e != api.OK:
					refused(t, b)
				case equal(q, p) || Check(q) != api.OK || !bytes.Equal(plainForm(q), b):
					t.Fatalf("Decode(% x) = %v, %v", b, q, e)
				default:
					told++
				}
			}
		}
		if want := neighbours(p); told != want {
			t.Errorf("%v has %d neighbours, not %d", p, told, want)
		}
	}
}

// neighbours is how many right packets have a form that differs from p's in just one byte.
func neighbours(p api.Packet) int {
	const each = 255 // other values of a byte that may be any
	homes := 2 + 2   // other ones of From, and of To
	switch p.Kind {
	case api.PackCall:
		free, methods := 8+8+16+8, 7
		if len(p.Ref) > 0 {
			// More than one byte of its Refs isn't 0, so that each of them may be any.
			free += 4 + 8 + 8 + 16 + 16
		}
		return homes + free*each + methods
	case api.PackReply:
		codes := 20
		return homes + (8+8+8)*each + codes
	case api.PackAddRef, api.PackRelease:
		n := homes + (8+16+4)*each + 1 // as the other one of both
		if p.N == 1 {
			n-- // N may not be 0
		}
		if p.Kind == api.PackAddRef && p.Ipid == (api.Guid{}) {
			n++ // as a reply, whose Call and Code are 0
		}
		return n
	}
	return homes + 8*each
}

func TestBytesThatArePassedOver(t *testing.T) {
	for kind, places := range map[int][]int{
		api.PackCall:    {3, 4, 5, 6, 7, 41, 42, 43, 44, 45, 46, 47, 68, 69, 70, 71, 76, 77, 78, 79},
		api.PackReply:   {3, 4, 5, 6, 7, 25, 26, 27, 28, 29, 30, 31},
		api.PackAddRef:  {3, 4, 5, 6, 7},
		api.PackRelease: {3, 4, 5, 6, 7},
		api.PackPing:    {3, 4, 5, 6, 7},
	} {
		for _, at := range places {
			for bit := range 8 {
				b := plainForm(whole(kind))
				b[at] |= 1 << bit
				refused(t, b)
			}
		}
	}
}

func TestRowsOfOtherKinds(t *testing.T) {
	for _, k := range kinds {
		for other := range 256 {
			b := plainForm(whole(k))
			b[0] = byte(other)
			p := whole(k)
			p.Kind = other
			sameRow := k == other || min(k, other) == api.PackAddRef && max(k, other) == api.PackRelease
			if sameRow {
				decoded(t, b, p)
			} else {
				refused(t, b)
			}
		}
	}
}

// R4

func TestWhatIsHandedInIsLeft(t *testing.T) {
	for _, k := range kinds {
		form := plainForm(whole(k))
		room := append(slices.Clone(form), bytes.Repeat([]byte{0xee}, 64)...)
		before := slices.Clone(room)
		decoded(t, room[:len(form)], whole(k))
		// The room behind a row is none of it.
		refused(t, room[:len(form)-1])
		refused(t, room[:0])
		refused(t, room[:len(form)+1])
		if !bytes.Equal(room, before) {
			t.Error(room)
		}
	}
	refs := []api.Objref{wholeRef(), {Refs: 7}, {}}
	before := slices.Clone(refs)
	for n := range len(refs) + 1 {
		p := whole(api.PackCall)
		p.Ref = refs[:n]
		q := p
		q.Ref = slices.Clone(p.Ref)
		if n <= 1 {
			encoded(t, p, plainForm(q))
		} else {
			notEncoded(t, p)
		}
		if !Same(p, q) || !slices.Equal(refs, before) {
			t.Error(n, refs)
		}
	}
	// Nor is the room behind a list that has no elements.
	p := api.Packet{Kind: api.PackPing, To: 1, Ref: refs[:0]}
	encoded(t, p, plainForm(p))
}

func TestAnswersAreNewMemory(t *testing.T) {
	p := whole(api.PackCall)
	b, _ := Encode(p)
	for i := range b {
		b[i] = 0xee
	}
	_ = append(b, 1, 2, 3)
	encoded(t, whole(api.PackCall), plainForm(whole(api.PackCall)))
	if !equal(p, whole(api.PackCall)) {
		t.Error(p)
	}
	b = plainForm(whole(api.PackCall))
	first, _ := Decode(b)
	second, _ := Decode(b)
	clear(b)
	if !equal(first, whole(api.PackCall)) || !equal(second, whole(api.PackCall)) {
		t.Fatal(first, second)
	}
	first.Ref[0] = api.Objref{}
	_ = append(first.Ref, api.Objref{})
	if !equal(second, whole(api.PackCall)) {
		t.Error(second)
	}
}

// P8.3

func same(t *testing.T, a, b api.Packet, want bool) {
	t.Helper()
	if Same(a, b) != want || Same(b, a) != want {
		t.Errorf("Same(%v, %v) = %v, %v", a, b, Same(a, b), Same(b, a))
	}
}

// changes turn one field each, to what it was not.
func changes() []func(p *api.Packet) {
	l := []func(p *api.Packet){
		func(p *api.Packet) { p.Kind++ },
		func(p *api.Packet) { p.Kind += 256 },
		func(p *api.Packet) { p.From++ },
		func(p *api.Packet) { p.From -= 1 << 32 },
		func(p *api.Packet) { p.To++ },
		func(p *api.Packet) { p.To += 256 },
		func(p *api.Packet) { p.Seq++ },
		func(p *api.Packet) { p.Seq ^= 1 << 63 },
		func(p *api.Packet) { p.Call++ },
		func(p *api.Packet) { p.Call ^= 1 << 63 },
		func(p *api.Packet) { p.Method++ },
		func(p *api.Packet) { p.Method = -p.Method - 1 },
		func(p *api.Packet) { p.N++ },
		func(p *api.Packet) { p.N ^= math.MinInt64 },
		func(p *api.Packet) { p.Code++ },
		func(p *api.Packet) { p.Code = -p.Code - 1 },
		func(p *api.Packet) { p.Ref = append(slices.Clone(p.Ref), api.Objref{}) },
		func(p *api.Packet) { p.Ref = append(slices.Clone(p.Ref), wholeRef()) },
		func(p *api.Packet) { p.Ref = append([]api.Objref{{Oid: 77}}, p.Ref...) },
	}
	for i := range 16 {
		l = append(l, func(p *api.Packet) { p.Ipid[i]++ })
	}
	return l
}

// refChanges turn one field each of the Objref at a place.
func refChanges(at int) []func(p *api.Packet) {
	var l []func(p *api.Packet)
	for _, change := range []func(x *api.Objref){
		func(x *api.Objref) { x.Flags++ },
		func(x *api.Objref) { x.Refs++ },
		func(x *api.Objref) { x.Oxid++ },
		func(x *api.Objref) { x.Oid++ },
		func(x *api.Objref) { x.Ipid[15]++ },
		func(x *api.Objref) { x.Iid[0]++ },
	} {
		l = append(l, func(p *api.Packet) {
			p.Ref = slices.Clone(p.Ref)
			change(&p.Ref[at])
		})
	}
	return l
}

// manyRefs: what may not be is held against itself, too.
func manyRefs(n int) api.Packet {
	p := whole(api.PackCall)
	p.Code = api.ErrGone
	p.Ref = slices.Repeat(p.Ref, n)
	return p
}

func TestSame(t *testing.T) {
	l := []api.Packet{{}, {Kind: -1, From: -5, Method: math.MinInt, Code: -1, N: math.MinInt64}, manyRefs(3)}
	for _, k := range kinds {
		l = append(l, whole(k))
	}
	for _, p := range l {
		twin := p
		twin.Ref = slices.Clone(p.Ref)
		same(t, p, twin, true)
		for _, change := range changes() {
			q := p
			change(&q)
			same(t, p, q, false)
		}
		for at := range p.Ref {
			for _, change := range refChanges(at) {
				q := p
				change(&q)
				same(t, p, q, false)
			}
		}
	}
}

func TestSameOfLists(t *testing.T) {
	room := []api.Objref{wholeRef(), {Refs: 1}, {Refs: 2}}
	p := func(l []api.Objref) api.Packet { return api.Packet{Kind: api.PackCall, To: 1, Ref: l} }
	// Nothing is nil or without elements, whatever room there is behind it.
	same(t, p(nil), p([]api.Objref{}), true)
	same(t, p(nil), p(room[:0]), true)
	same(t, p(room[:0]), p(room[1:1]), true)
	same(t, p(room[:1]), p([]api.Objref{wholeRef()}), true)
	for n := range 4 {
		for m := range 4 {
			same(t, p(room[:n]), p(slices.Clone(room[:m])), n == m)
		}
	}
	same(t, p([]api.Objref{{Refs: 1}, {Refs: 2}}), p([]api.Objref{{Refs: 2}, {Refs: 1}}), false)
	same(t, p(nil), p([]api.Objref{{}}), false)
}

func TestAllPairs(t *testing.T) {
	l := rightOnes()
	for _, a := range l {
		for _, b := range l {
			if got, want := Same(a, b), equal(a, b); got != want {
				t.Fatalf("Same(%v, %v) = %v", a, b, got)
			}
			// Right ones are the same just if their forms are.
			if got, want := Same(a, b), bytes.Equal(plainForm(a), plainForm(b)); got != want {
				t.Fatalf("Same(%v, %v) = %v", a, b, got)
			}
		}
	}
}

// All together

// dice makes rows by a rule: no two runs of the tests differ.
type dice uint32

func (d *dice) below(n int) int {
	*d = *d*1664525 + 1013904223
	return int(*d>>16) % n
}

// R1: rows of any bytes. What is read is right, and is laid as it was.
func TestAnyRows(t *testing.T) {
	d := dice(1)
	read, none := 0, 0
	forms := rightOnes()
	for range 30000 {
		b := plainForm(forms[d.below(len(forms))])
		for range d.below(3) {
			b[d.below(len(b))] = byte(d.below(256))
		}
		if d.below(8) == 0 {
			b = b[:d.below(len(b)+1)]
		}
		p, e := Decode(b)
		if e != api.OK {
			refused(t, b)
			none++
			continue
		}
		read++
		encoded(t, p, b)
		if !bytes.Equal(plainForm(p), b) {
			t.Fatalf("Decode(% x) = %v", b, p)
		}
	}
	for range 30000 {
		b := make([]byte, d.below(140))
		for i := range b {
			if d.below(3) == 0 {
				b[i] = byte(d.below(7))
			}
		}
		if p, e := Decode(b); e == api.OK {
			encoded(t, p, b)
		} else {
			refused(t, b)
		}
	}
	if read < 5000 || none < 5000 {
		t.Error(read, none)
	}
}
