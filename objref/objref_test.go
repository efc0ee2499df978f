package objref

import (
	"bytes"
	"encoding/binary"
	"math"
	"slices"
	"testing"

	"tenon/api"
	"tenon/guid"
)

const top = math.MaxUint32

// edges are numbers whose highest and lowest bytes differ.
var (
	shorts = []uint32{0, 1, 2, 3, 5, 0xff, 0x100, 0x04030201, 1<<31 - 1, 1 << 31, top - 1, top}
	longs  = []uint64{0, 1, 2, 0xff, 0x100, top, top + 1, 0x0807060504030201, 1<<63 - 1, 1 << 63, math.MaxUint64}
)

// whole has another byte at each place.
func whole() api.Objref {
	x := api.Objref{Refs: 0x04030201, Oxid: 0x0c0b0a0908070605, Oid: 0x14131211100f0e0d}
	for i := range x.Ipid {
		x.Ipid[i] = byte(0x15 + i)
		x.Iid[i] = byte(0x25 + i)
	}
	return x
}

// rightOnes are right, edges of all fields among them.
func rightOnes() []api.Objref {
	l := []api.Objref{{Refs: 1}, {Flags: 1}, {Flags: 2}, whole()}
	for _, flags := range []uint32{1, 2} {
		x := whole()
		x.Flags, x.Refs = flags, 0
		l = append(l, x)
	}
	for _, n := range shorts[1:] {
		l = append(l, api.Objref{Refs: n})
	}
	for _, n := range longs {
		l = append(l, api.Objref{Refs: 1, Oxid: n}, api.Objref{Flags: 1, Oid: n}, api.Objref{Flags: 2, Oxid: ^n, Oid: n})
	}
	for i := range 16 {
		x := api.Objref{Refs: 1}
		x.Ipid[i] = 0xff
		y := api.Objref{Flags: 2}
		y.Iid[i] = 0x80
		l = append(l, x, y)
	}
	return l
}

// wrongOnes: what is wrong with them are Flags and Refs alone.
func wrongOnes() []api.Objref {
	l := []api.Objref{{}, {Oxid: 1, Oid: 2, Ipid: guid.Of(3), Iid: guid.Of(4)}}
	for _, n := range shorts {
		for flags := uint32(1); flags <= 2; flags++ {
			if n > 0 {
				l = append(l, api.Objref{Flags: flags, Refs: n})
			}
		}
		for _, flags := range []uint32{3, 4, 5, 0x100, 0x101, 0x102, 1 << 16, 1<<16 | 1, 1 << 24, 1<<24 | 2, 1 << 31, 1<<31 | 1, 1<<31 | 2, top - 1, top} {
			l = append(l, api.Objref{Flags: flags, Refs: n})
			x := whole()
			x.Flags, x.Refs = flags, n
			l = append(l, x)
		}
	}
	return l
}

// plainForm goes by the chapter's words, and doesn't ask whether x is right.
func plainForm(x api.Objref) []byte {
	b := []byte{0x4d, 0x45, 0x4f, 0x57}
	b = binary.LittleEndian.AppendUint32(b, x.Flags)
	b = binary.LittleEndian.AppendUint32(b, x.Refs)
	b = append(b, 0, 0, 0, 0)
	b = binary.LittleEndian.AppendUint64(b, x.Oxid)
	b = binary.LittleEndian.AppendUint64(b, x.Oid)
	b = append(b, x.Ipid[:]...)
	return append(b, x.Iid[:]...)
}

func encoded(t *testing.T, x api.Objref, want []byte) {
	t.Helper()
	if e := Check(x); e != api.OK {
		t.Errorf("Check(%v) = %v", x, e)
	}
	if b, e := Encode(x); !bytes.Equal(b, want) || e != api.OK {
		t.Errorf("Encode(%v) = % x, %v, not % x", x, b, e, want)
	}
}

func decoded(t *testing.T, b []byte, want api.Objref) {
	t.Helper()
	if x, e := Decode(b); x != want || e != api.OK {
		t.Errorf("Decode(% x) = %v, %v, not %v", b, x, e, want)
	}
}

// refused: R3 too, with an error there is no Objref.
func refused(t *testing.T, b []byte, want api.Errno) {
	t.Helper()
	if x, e := Decode(b); x != (api.Objref{}) || e != want {
		t.Errorf("Decode(% x) = %v, %v, not %v", b, x, e, want)
	}
}

// P7.1

func TestTheExample(t *testing.T) {
	want := make([]byte, 64)
	copy(want, []byte{0x4d, 0x45, 0x4f, 0x57, 0, 0, 0, 0, 5, 0, 0, 0, 0, 0, 0, 0, 1, 0, 0, 0, 0, 0, 0, 0, 2})
	x := api.Objref{Refs: 5, Oxid: 1, Oid: 2}
	encoded(t, x, want)
	decoded(t, want, x)
}

func TestEachFieldHasItsPlace(t *testing.T) {
	want := []byte{0x4d, 0x45, 0x4f, 0x57, 0, 0, 0, 0, 1, 2, 3, 4, 0, 0, 0, 0}
	for i := 5; i <= 0x34; i++ {
		want = append(want, byte(i))
	}
	encoded(t, whole(), want)
	decoded(t, want, whole())
	x := api.Objref{Flags: 2}
	want = make([]byte, 64)
	copy(want, []byte{0x4d, 0x45, 0x4f, 0x57, 2})
	encoded(t, x, want)
	decoded(t, want, x)
}

func TestRightOnes(t *testing.T) {
	for _, x := range rightOnes() {
		encoded(t, x, plainForm(x))
	}
}

func TestWrongOnes(t *testing.T) {
	for _, x := range wrongOnes() {
		if e := Check(x); e != api.ErrForm {
			t.Errorf("Check(%v) = %v", x, e)
		}
		if b, e := Encode(x); b != nil || e != api.ErrForm {
			t.Errorf("Encode(%v) = % x, %v", x, b, e)
		}
	}
}

// What is right hangs on Flags and Refs alone, and on both.
func TestFlagsAndRefs(t *testing.T) {
	for flags := range uint32(300) {
		for refs := range uint32(300) {
			want := api.ErrForm
			if flags == 0 && refs > 0 || flags == 1 && refs == 0 || flags == 2 && refs == 0 {
				want = api.OK
			}
			x := whole()
			x.Flags, x.Refs = flags, refs
			if e := Check(x); e != want {
				t.Fatalf("Check(%v) = %v, not %v", x, e, want)
			}
			if e := Check(api.Objref{Flags: flags, Refs: refs}); e != want {
				t.Fatalf("Check of Flags %d, Refs %d = %v, not %v", flags, refs, e, want)
			}
		}
	}
}

// P7.2

func TestDecodeRightOnes(t *testing.T) {
	for _, x := range rightOnes() {
		decoded(t, plainForm(x), x)
	}
}

func TestDecodeWrongOnes(t *testing.T) {
	for _, x := range wrongOnes() {
		refused(t, plainForm(x), api.ErrForm)
	}
}

func TestTooFewBytes(t *testing.T) {
	refused(t, nil, api.ErrShort)
	for n := range 64 {
		for _, x := range []api.Objref{whole(), {Refs: 1}, {Flags: 1}, {}, {Flags: 3, Refs: 3}} {
			b := plainForm(x)
			refused(t, b[:n], api.ErrShort)
			refused(t, b[64-n:], api.ErrShort)
			// What the bytes are is not asked.
			refused(t, bytes.Repeat([]byte{0xff}, n), api.ErrShort)
			refused(t, make([]byte, n), api.ErrShort)
		}
	}
}

func TestTooManyBytes(t *testing.T) {
	for _, x := range rightOnes() {
		b := plainForm(x)
		for _, more := range [][]byte{{0}, {1}, {0, 0, 0, 0}, make([]byte, 63), make([]byte, 64), b, b[:4], make([]byte, 1<<16)} {
			refused(t, slices.Concat(b, more), api.ErrForm)
			refused(t, slices.Concat(more, b), api.ErrForm)
		}
	}
	for n := 65; n < 200; n++ {
		refused(t, make([]byte, n), api.ErrForm)
	}
}

// A byte that tells nothing of the Objref is as it must be; any other one makes another Objref, or none.
func TestEachByteTells(t *testing.T) {
	for _, x := range []api.Objref{whole(), {Refs: 1}, {Flags: 1}, {Flags: 2, Oxid: math.MaxUint64}} {
		right := plainForm(x)
		for at := range right {
			for n := range 256 {
				b := slices.Clone(right)
				b[at] = byte(n)
				y, e := Decode(b)
				switch {
				case b[at] == right[at]:
					decoded(t, b, x)
				case at < 4 || 12 <= at && at < 16:
					refused(t, b, api.ErrForm)
				case at < 12:
					plain := x
					plain.Flags, plain.Refs = binary.LittleEndian.Uint32(b[4:]), binary.LittleEndian.Uint32(b[8:])
					if Check(plain) == api.OK {
						decoded(t, b, plain)
					} else {
						refused(t, b, api.ErrForm)
					}
				case e != api.OK || y == x || !bytes.Equal(plainForm(y), b):
					t.Fatalf("Decode(% x) = %v, %v", b, y, e)
				}
			}
		}
	}
}

func TestRowsThatAreNoForms(t *testing.T) {
	refused(t, make([]byte, 64), api.ErrForm)
	refused(t, bytes.Repeat([]byte{0xff}, 64), api.ErrForm)
	b := plainForm(whole())
	for i := 1; i < 64; i++ {
		refused(t, slices.Concat(b[i:], b[:i]), api.ErrForm)
	}
	// The highest byte first.
	b = plainForm(api.Objref{Refs: 1})
	slices.Reverse(b[:4])
	refused(t, b, api.ErrForm)
	b = plainForm(api.Objref{Flags: 1 << 24})
	refused(t, b, api.ErrForm)
}

// R4

func TestWhatIsHandedInIsLeft(t *testing.T) {
	room := append(plainForm(whole()), bytes.Repeat([]byte{0xee}, 64)...)
	before := slices.Clone(room)
	decoded(t, room[:64], whole())
	// The room behind a row is none of it.
	refused(t, room[:63], api.ErrShort)
	refused(t, room[:0], api.ErrShort)
	refused(t, room[:65], api.ErrForm)
	if !bytes.Equal(room, before) {
		t.Error(room)
	}
}

func TestAnswersAreNewMemory(t *testing.T) {
	b, _ := Encode(whole())
	for i := range b {
		b[i] = 0xee
	}
	_ = append(b, 1, 2, 3)
	encoded(t, whole(), plainForm(whole()))
	b = plainForm(whole())
	x, _ := Decode(b)
	clear(b)
	if x != whole() {
		t.Error(x)
	}
}

// P7.3

func less(t *testing.T, a, b api.Objref) {
	t.Helper()
	if !Less(a, b) {
		t.Errorf("Less(%v, %v) = false", a, b)
	}
	if Less(b, a) {
		t.Errorf("Less(%v, %v) = true", b, a)
	}
}

// raised are Objrefs that are greater than x in just one field each, in the order of the fields.
func raised(x api.Objref) []api.Objref {
	l := slices.Repeat([]api.Objref{x}, 6)
	l[0].Oxid++
	l[1].Oid++
	l[2].Ipid[15]++
	l[3].Iid[15]++
	l[4].Flags++
	l[5].Refs++
	return l
}

func TestTheOrderOfFields(t *testing.T) {
	for _, x := range []api.Objref{{}, {Refs: 1}, whole(), {Flags: 2}} {
		if Less(x, x) {
			t.Errorf("Less(%v, %v) = true", x, x)
		}
		l := raised(x)
		for i, y := range l {
			less(t, x, y)
			// The field that comes first tells it, whatever the later ones are.
			for _, z := range l[:i] {
				less(t, y, z)
			}
		}
	}
	a := api.Objref{Oxid: 1}
	b := api.Objref{Flags: top, Refs: top, Oid: math.MaxUint64, Ipid: guid.Of(9), Iid: guid.Of(9)}
	less(t, b, a)
}

func TestNumbersHaveNoSign(t *testing.T) {
	for i, n := range longs {
		for _, m := range longs[:i] {
			less(t, api.Objref{Oxid: m, Oid: 9}, api.Objref{Oxid: n, Oid: 8})
			less(t, api.Objref{Oid: m, Ipid: guid.Of(9)}, api.Objref{Oid: n})
		}
	}
	for i, n := range shorts {
		for _, m := range shorts[:i] {
			less(t, api.Objref{Flags: m, Refs: 9}, api.Objref{Flags: n, Refs: 8})
			less(t, api.Objref{Refs: m}, api.Objref{Refs: n})
		}
	}
}

func TestGuidsGoByTheirFirstBytes(t *testing.T) {
	for i := range 16 {
		for j := i + 1; j < 16; j++ {
			var early, late api.Guid
			early[i], late[j] = 1, 0xff
			less(t, api.Objref{Ipid: late, Iid: guid.Of(1)}, api.Objref{Ipid: early})
			less(t, api.Objref{Iid: late, Flags: 1}, api.Objref{Iid: early})
		}
		var little, great api.Guid
		little[i], great[i] = 0x7f, 0x80
		less(t, api.Objref{Ipid: little, Iid: guid.Of(1)}, api.Objref{Ipid: great})
		less(t, api.Objref{Iid: little, Flags: 1}, api.Objref{Iid: great})
	}
}

// plainCompare holds rows whose first byte that differs tells the order.
func plainCompare(a, b api.Objref) int {
	return bytes.Compare(plainRow(a), plainRow(b))
}

func plainRow(x api.Objref) []byte {
	row := binary.BigEndian.AppendUint64(nil, x.Oxid)
	row = binary.BigEndian.AppendUint64(row, x.Oid)
	row = append(row, x.Ipid[:]...)
	row = append(row, x.Iid[:]...)
	row = binary.BigEndian.AppendUint32(row, x.Flags)
	return binary.BigEndian.AppendUint32(row, x.Refs)
}

func TestAllPairs(t *testing.T) {
	l := slices.Concat(rightOnes(), wrongOnes())
	for _, a := range l {
		for _, b := range l {
			if got, want := Less(a, b), plainCompare(a, b) < 0; got != want {
				t.Fatalf("Less(%v, %v) = %v", a, b, got)
			}
		}
	}
}

// dice makes rows by a rule: no two runs of the tests differ.
type dice uint32

func (d *dice) below(n int) int {
	*d = *d*1664525 + 1013904223
	return int(*d>>16) % n
}

func TestAnyObjrefs(t *testing.T) {
	d := dice(1)
	right := 0
	for range 20000 {
		var x, y api.Objref
		for _, p := range []*api.Objref{&x, &y} {
			p.Flags, p.Refs = uint32(d.below(4)), uint32(d.below(3))
			p.Oxid, p.Oid = longs[d.below(4)], longs[d.below(len(longs))]
			p.Ipid[d.below(16)] = byte(d.below(3))
			p.Iid[d.below(16)] = byte(d.below(256))
		}
		if got, want := Less(x, y), plainCompare(x, y) < 0; got != want {
			t.Fatalf("Less(%v, %v) = %v", x, y, got)
		}
		if Check(x) != api.OK {
			refused(t, plainForm(x), api.ErrForm)
			continue
		}
		right++
		encoded(t, x, plainForm(x))
		decoded(t, plainForm(x), x)
	}
	if right < 1000 {
		t.Error(right)
	}
}
