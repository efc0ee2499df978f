package wire

import (
	"bytes"
	"encoding/binary"
	"math"
	"slices"
	"testing"

	"tenon/api"
)

var sizes = []int{1, 2, 4, 8}

func noSizes() []int {
	l := []int{math.MinInt, math.MinInt + 1, math.MaxInt, math.MaxInt - 7, 1 << 32, 1<<32 + 1, -1 << 32, 16, 32, 64, 128, 256, 257, 65536}
	for size := -20; size <= 20; size++ {
		if !slices.Contains(sizes, size) {
			l = append(l, size)
		}
	}
	return l
}

// greatest is what a size has room for.
func greatest(size int) uint64 {
	return map[int]uint64{1: 0xff, 2: 0xffff, 4: 0xffffffff, 8: math.MaxUint64}[size]
}

// fill is n bytes, none of which is 00 and no neighbours of which are the same.
func fill(n int) []byte {
	b := make([]byte, n)
	for i := range b {
		b[i] = byte(i%251 + 1)
	}
	return b
}

// plainNum is b with the form of n behind it, by the library's means.
func plainNum(b []byte, n uint64, size int) []byte {
	b = slices.Clone(b)
	for len(b)%size != 0 {
		b = append(b, 0)
	}
	switch size {
	case 1:
		return append(b, byte(n))
	case 2:
		return binary.LittleEndian.AppendUint16(b, uint16(n))
	case 4:
		return binary.LittleEndian.AppendUint32(b, uint32(n))
	}
	return binary.LittleEndian.AppendUint64(b, n)
}

func plainText(b, text []byte) []byte {
	return append(plainNum(b, uint64(len(text)), 4), text...)
}

func has(t *testing.T, w *Writer, want []byte) {
	t.Helper()
	if b := w.Bytes(); !bytes.Equal(b, want) {
		t.Fatalf("Bytes() = % x, not % x", b, want)
	}
}

// laid: n's form is behind all that was.
func laid(t *testing.T, w *Writer, n uint64, size int) {
	t.Helper()
	want := plainNum(w.Bytes(), n, size)
	if e := w.Num(n, size); e != api.OK {
		t.Fatalf("Num(%#x, %d) = %v", n, size, e)
	}
	has(t, w, want)
}

func laidText(t *testing.T, w *Writer, text []byte) {
	t.Helper()
	want := plainText(w.Bytes(), text)
	if e := w.Text(text); e != api.OK {
		t.Fatalf("Text of %d bytes = %v", len(text), e)
	}
	has(t, w, want)
}

// notLaid: nothing is, not even what would be passed over.
func notLaid(t *testing.T, w *Writer, n uint64, size int) {
	t.Helper()
	before := w.Bytes()
	if e := w.Num(n, size); e != api.ErrArg {
		t.Fatalf("Num(%#x, %d) = %v, not ErrArg", n, size, e)
	}
	has(t, w, before)
}

func notLaidText(t *testing.T, w *Writer, text []byte) {
	t.Helper()
	before := w.Bytes()
	if e := w.Text(text); e != api.ErrArg {
		t.Fatalf("Text of %d bytes = %v, not ErrArg", len(text), e)
	}
	has(t, w, before)
}

// begun is a writer with n bytes.
func begun(t *testing.T, n int) *Writer {
	t.Helper()
	w := NewWriter()
	for _, b := range fill(n) {
		laid(t, w, uint64(b), 1)
	}
	return w
}

func left(t *testing.T, r *Reader, want int) {
	t.Helper()
	if n := r.Left(); n != want {
		t.Fatalf("Left() = %d, not %d", n, want)
	}
	end := api.ErrForm
	if want == 0 {
		end = api.OK
	}
	if e := r.End(); e != end {
		t.Fatalf("End() = %v with %d left", e, want)
	}
}

func read(t *testing.T, r *Reader, size int, want uint64, wantLeft int) {
	t.Helper()
	if n, e := r.Num(size); n != want || e != api.OK {
		t.Fatalf("Num(%d) = %#x, %v, not %#x", size, n, e, want)
	}
	left(t, r, wantLeft)
}

func readText(t *testing.T, r *Reader, most int, want []byte, wantLeft int) {
	t.Helper()
	if b, e := r.Text(most); !bytes.Equal(b, want) || e != api.OK {
		t.Fatalf("Text(%d) = % x, %v, not % x", most, b, e, want)
	}
	left(t, r, wantLeft)
}

// refused: the reader stays where it was.
func refused(t *testing.T, r *Reader, size int, want api.Errno) {
	t.Helper()
	stays := r.Left()
	if n, e := r.Num(size); n != 0 || e != want {
		t.Fatalf("Num(%d) = %#x, %v, not 0, %v", size, n, e, want)
	}
	left(t, r, stays)
}

func refusedText(t *testing.T, r *Reader, most int, want api.Errno) {
	t.Helper()
	stays := r.Left()
	if b, e := r.Text(most); len(b) != 0 || e != want {
		t.Fatalf("Text(%d) = % x, %v, not nothing, %v", most, b, e, want)
	}
	left(t, r, stays)
}

// opened is a reader of b, behind at bytes of it.
func opened(t *testing.T, b []byte, at int) *Reader {
	t.Helper()
	r := NewReader(b)
	for i := range at {
		read(t, r, 1, uint64(b[i]), len(b)-i-1)
	}
	return r
}

// P5.1

func TestExample(t *testing.T) {
	w := NewWriter()
	laid(t, w, 1, 1)
	laid(t, w, 2, 4)
	laidText(t, w, []byte("ab"))
	has(t, w, []byte{1, 0, 0, 0, 2, 0, 0, 0, 2, 0, 0, 0, 0x61, 0x62})
}

func TestFormsOfNumbers(t *testing.T) {
	for _, c := range []struct {
		n    uint64
		size int
		want []byte
	}{
		{0, 1, []byte{0}},
		{0xfe, 1, []byte{0xfe}},
		{0, 2, []byte{0, 0}},
		{0x1234, 2, []byte{0x34, 0x12}},
		{0x12345678, 4, []byte{0x78, 0x56, 0x34, 0x12}},
		{1, 4, []byte{1, 0, 0, 0}},
		{0x80000000, 4, []byte{0, 0, 0, 0x80}},
		{0x0123456789abcdef, 8, []byte{0xef, 0xcd, 0xab, 0x89, 0x67, 0x45, 0x23, 1}},
		{1, 8, []byte{1, 0, 0, 0, 0, 0, 0, 0}},
	} {
		w := NewWriter()
		laid(t, w, c.n, c.size)
		has(t, w, c.want)
	}
}

func TestNumbersStandAtPlacesThatTheirSizeDivides(t *testing.T) {
	for at := range 18 {
		for _, size := range sizes {
			for _, n := range []uint64{0, 1, 0x81, greatest(size) / 3, greatest(size)} {
				w := begun(t, at)
				laid(t, w, n, size)
				laid(t, w, 7, 1)
			}
		}
	}
	w := begun(t, 3)
	laid(t, w, 0x0807060504030201, 8)
	has(t, w, []byte{1, 2, 3, 0, 0, 0, 0, 0, 1, 2, 3, 4, 5, 6, 7, 8})
}

func TestNumbersNeedRoom(t *testing.T) {
	for at := range 9 {
		for _, size := range sizes {
			w := begun(t, at)
			if size < 8 {
				for bit := 8 * size; bit < 64; bit++ {
					notLaid(t, w, 1<<bit, size)
					notLaid(t, w, 1<<bit|1, size)
				}
				notLaid(t, w, greatest(size)+1, size)
				notLaid(t, w, math.MaxUint64, size)
			}
			laid(t, w, greatest(size), size)
		}
	}
}

func TestSizesThatAreNone(t *testing.T) {
	for _, at := range []int{0, 1, 5} {
		for _, size := range noSizes() {
			w := begun(t, at)
			notLaid(t, w, 0, size)
			notLaid(t, w, 1, size)
			notLaid(t, w, math.MaxUint64, size)
			// What comes behind stands where it would have stood.
			laid(t, w, 3, 2)
		}
	}
}

func TestTexts(t *testing.T) {
	for at := range 10 {
		for _, text := range [][]byte{nil, {}, {0}, {0, 0, 0, 0}, {0xff}, []byte("abc"), []byte("\xc3\xa4\xff\x00"), fill(255), fill(256), fill(257)} {
			w := begun(t, at)
			laidText(t, w, text)
			laidText(t, w, text)
			laid(t, w, 1, 8)
		}
	}
	w := begun(t, 5)
	laidText(t, w, []byte("abc"))
	laidText(t, w, nil)
	has(t, w, []byte{1, 2, 3, 4, 5, 0, 0, 0, 3, 0, 0, 0, 0x61, 0x62, 0x63, 0, 0, 0, 0, 0})
}

func TestTheLongestText(t *testing.T) {
	room := fill(65540)
	for n := 65534; n <= 65535; n++ {
		w := begun(t, 1)
		laidText(t, w, room[:n])
	}
	for n := 65536; n <= len(room); n++ {
		w := begun(t, 1)
		notLaidText(t, w, room[:n])
		laidText(t, w, room[:2])
	}
	notLaidText(t, NewWriter(), fill(1<<20))
	// 65536 behind one another is no bound of the whole.
	w := NewWriter()
	laidText(t, w, room[:65535])
	laidText(t, w, room[:65535])
	laid(t, w, 1, 8)
}

func TestAWriterWithoutForms(t *testing.T) {
	has(t, NewWriter(), nil)
	var w Writer
	has(t, &w, nil)
	laid(t, &w, 1, 1)
	laid(t, &w, 2, 4)
}

func TestNilWriter(t *testing.T) {
	var w *Writer
	has(t, w, nil)
	for _, size := range append(noSizes(), sizes...) {
		notLaid(t, w, 0, size)
		notLaid(t, w, math.MaxUint64, size)
	}
	notLaidText(t, w, nil)
	notLaidText(t, w, []byte("ab"))
	notLaidText(t, w, fill(65536))
}

// R6: one writer's forms aren't another one's.
func TestWritersDoNotShare(t *testing.T) {
	a, b := NewWriter(), NewWriter()
	laid(t, a, 1, 1)
	has(t, b, nil)
	laid(t, b, 2, 1)
	laid(t, a, 3, 1)
	has(t, a, []byte{1, 3})
	has(t, b, []byte{2})
}

// R4

func TestBytesAreNewMemory(t *testing.T) {
	w := NewWriter()
	laidText(t, w, []byte("ab"))
	first := w.Bytes()
	for i := range first {
		first[i] = 0x55
	}
	// Room behind it isn't the writer's either.
	_ = append(first, 0x66, 0x66, 0x66)
	has(t, w, []byte{2, 0, 0, 0, 0x61, 0x62})
	second := w.Bytes()
	laid(t, w, 9, 1)
	w.Bytes()[0] = 7
	if !bytes.Equal(second, []byte{2, 0, 0, 0, 0x61, 0x62}) {
		t.Fatal(second)
	}
	has(t, w, []byte{2, 0, 0, 0, 0x61, 0x62, 9})
}

func TestTextsAreNotKept(t *testing.T) {
	room := []byte("abcdef")
	w := NewWriter()
	laidText(t, w, room[:2])
	laid(t, w, 5, 1)
	if string(room) != "abcdef" {
		t.Fatal(room)
	}
	room[0], room[1], room[2] = 'x', 'y', 'z'
	has(t, w, []byte{2, 0, 0, 0, 0x61, 0x62, 5})
}

func TestReadersDoNotKeepWhatTheyAreHanded(t *testing.T) {
	room := []byte{2, 0, 0, 0, 'a', 'b', 7, 8}
	r := NewReader(room[:7])
	for i := range room {
		room[i] = 0xee
	}
	readText(t, r, 2, []byte("ab"), 1)
	read(t, r, 1, 7, 0)
	// There is no byte behind the length.
	refused(t, r, 1, api.ErrShort)
	if slices.ContainsFunc(room, func(b byte) bool { return b != 0xee }) {
		t.Fatal(room)
	}
}

func TestReadTextsAreNewMemory(t *testing.T) {
	b := []byte{2, 0, 0, 0, 'a', 'b', 'c', 0, 1, 0, 0, 0, 'd'}
	before := slices.Clone(b)
	r := NewReader(b)
	text, _ := r.Text(2)
	text[0] = 'x'
	_ = append(text, 'y', 'y', 'y', 'y')
	if !bytes.Equal(b, before) {
		t.Fatal(b)
	}
	read(t, r, 1, 'c', 6)
	next, e := r.Text(1)
	if string(next) != "d" || e != api.OK || string(text) != "xb" {
		t.Fatal(next, e, text)
	}
	if NewReader(b).Left() != len(b) {
		t.Fatal("Left")
	}
}

// P5.2: Num

func TestReadNumbers(t *testing.T) {
	for at := range 18 {
		for _, size := range sizes {
			for _, n := range []uint64{0, 1, 0x81, greatest(size) / 3, greatest(size) ^ greatest(size)>>3, greatest(size)} {
				b := plainNum(fill(at), n, size)
				read(t, opened(t, b, at), size, n, 0)
				read(t, opened(t, append(b, 9, 9, 9), at), size, n, 3)
			}
		}
	}
	r := NewReader([]byte{1, 2, 3, 4, 5, 6, 7, 8})
	read(t, r, 8, 0x0807060504030201, 0)
	r = NewReader([]byte{1, 2, 3, 4, 5, 6, 7, 8})
	read(t, r, 1, 1, 7)
	refused(t, r, 2, api.ErrForm)
	read(t, r, 1, 2, 6)
	read(t, r, 2, 0x0403, 4)
	read(t, r, 4, 0x08070605, 0)
}

func TestReadNumbersThatAreTooShort(t *testing.T) {
	for at := range 18 {
		for _, size := range sizes {
			whole := plainNum(fill(at), greatest(size), size)
			for end := at; end < len(whole); end++ {
				r := opened(t, whole[:end], at)
				refused(t, r, size, api.ErrShort)
				refused(t, r, size, api.ErrShort)
				// Behind it all is read as if nothing had been asked.
				for i := at; i < end; i++ {
					read(t, r, 1, uint64(whole[i]), end-i-1)
				}
			}
		}
	}
	for _, size := range sizes {
		refused(t, NewReader(nil), size, api.ErrShort)
		refused(t, NewReader([]byte{}), size, api.ErrShort)
	}
}

func TestReadBytesThatArePassedOver(t *testing.T) {
	for at := range 18 {
		for _, size := range sizes {
			whole := plainNum(fill(at), 5, size)
			for i := at; i < len(whole)-size; i++ {
				for bit := range 8 {
					b := slices.Clone(whole)
					b[i] |= 1 << bit
					r := opened(t, b, at)
					refused(t, r, size, api.ErrForm)
					refused(t, r, size, api.ErrForm)
					// Too few bytes are told ahead of it.
					r = opened(t, b[:len(b)-1], at)
					refused(t, r, size, api.ErrShort)
				}
			}
		}
	}
}

func TestReadSizesThatAreNone(t *testing.T) {
	for _, size := range noSizes() {
		for at := range 5 {
			r := opened(t, fill(12), at)
			refused(t, r, size, api.ErrArg)
			read(t, r, 1, uint64(at+1), 11-at)
		}
		// Of several errors it is the first one.
		refused(t, NewReader(nil), size, api.ErrArg)
		refused(t, opened(t, []byte{1, 9}, 1), size, api.ErrArg)
		refused(t, opened(t, []byte{1}, 1), size, api.ErrArg)
	}
}

// P5.2: Text

func TestReadTexts(t *testing.T) {
	for at := range 10 {
		for _, n := range []int{0, 1, 2, 3, 4, 5, 255, 256, 257, 65535} {
			text := fill(n)
			b := plainText(fill(at), text)
			for _, most := range []int{n, n + 1, math.MaxInt - 1, math.MaxInt} {
				readText(t, opened(t, b, at), most, text, 0)
				readText(t, opened(t, append(b, 9), at), most, text, 1)
			}
		}
	}
}

// What no writer lays may be read: there is no bound but most.
func TestReadTextsThatNoWriterLays(t *testing.T) {
	text := fill(1 << 17)
	b := plainText(nil, text)
	readText(t, NewReader(b), len(text), text, 0)
	refusedText(t, NewReader(b), len(text)-1, api.ErrTooMany)
	refusedText(t, NewReader(b), 65535, api.ErrTooMany)
}

func TestReadTextsThatAreTooLong(t *testing.T) {
	for _, n := range []int{0, 1, 2, 5, 256} {
		b := plainText(fill(3), fill(n))
		for _, most := range []int{math.MinInt, math.MinInt + 1, -1 << 32, -n - 1, -2, -1, n - 2, n - 1} {
			r := opened(t, b, 3)
			refusedText(t, r, most, api.ErrTooMany)
			refusedText(t, r, most, api.ErrTooMany)
			readText(t, r, n, fill(n), 0)
			// That there are fewer bytes is told behind it.
			if n > 0 {
				refusedText(t, opened(t, b[:len(b)-1], 3), most, api.ErrTooMany)
			}
		}
	}
	// The length has four bytes, all of which are held against most.
	for _, n := range []uint32{1 << 8, 1 << 16, 1 << 24, 1 << 31, 1<<31 - 1, math.MaxUint32} {
		b := binary.LittleEndian.AppendUint32(nil, n)
		refusedText(t, NewReader(b), int(n)-1, api.ErrTooMany)
		refusedText(t, NewReader(b), 255, api.ErrTooMany)
		refusedText(t, NewReader(b), 0, api.ErrTooMany)
		refusedText(t, NewReader(b), -1, api.ErrTooMany)
	}
}

func TestReadTextsThatAreTooShort(t *testing.T) {
	for _, n := range []int{1, 2, 5, 256} {
		for at := range 5 {
			b := plainText(fill(at), fill(n))
			for end := len(b) - n; end < len(b); end++ {
				r := opened(t, b[:end], at)
				refusedText(t, r, n, api.ErrShort)
				refusedText(t, r, math.MaxInt, api.ErrShort)
				// The length is there still.
				read(t, r, 4, uint64(n), end-(len(b)-n))
			}
		}
	}
	for _, n := range []uint32{1, 2, 1 << 31, 1<<31 - 1, math.MaxUint32 - 3, math.MaxUint32} {
		b := binary.LittleEndian.AppendUint32(nil, n)
		refusedText(t, NewReader(b), int(n), api.ErrShort)
		refusedText(t, NewReader(b), math.MaxInt, api.ErrShort)
	}
}

func TestReadTextsHaveTheErrorsOfTheirLengths(t *testing.T) {
	for _, most := range []int{math.MinInt, -1, 0, 1, 5, math.MaxInt} {
		for n := range 4 {
			refusedText(t, NewReader(make([]byte, n)), most, api.ErrShort)
			refusedText(t, NewReader(fill(n)), most, api.ErrShort)
		}
		for at := 1; at < 4; at++ {
			whole := plainText(fill(at), fill(5))
			for end := at; end < 8; end++ {
				refusedText(t, opened(t, whole[:end], at), most, api.ErrShort)
			}
			for i := at; i < 4; i++ {
				b := slices.Clone(whole)
				b[i] = 0x80
				refusedText(t, opened(t, b, at), most, api.ErrForm)
				refusedText(t, opened(t, b[:7], at), most, api.ErrShort)
				refusedText(t, opened(t, b[:8], at), most, api.ErrForm)
			}
		}
	}
}

// P5.2: Left and End

func TestLeftAndEnd(t *testing.T) {
	for n := range 20 {
		for at := range n + 1 {
			left(t, opened(t, fill(n), at), n-at)
		}
		// Bytes 00 that nothing passes over are left, too.
		left(t, NewReader(make([]byte, n)), n)
	}
	r := NewReader([]byte{1, 0})
	read(t, r, 1, 1, 1)
	read(t, r, 1, 0, 0)
}

func TestNilReader(t *testing.T) {
	var none *Reader
	var empty Reader
	for _, r := range []*Reader{none, &empty} {
		for _, size := range sizes {
			refused(t, r, size, api.ErrShort)
		}
		for _, size := range noSizes() {
			refused(t, r, size, api.ErrArg)
		}
		for _, most := range []int{math.MinInt, -1, 0, 1, math.MaxInt} {
			refusedText(t, r, most, api.ErrShort)
		}
		left(t, r, 0)
	}
}

// R6: what one reader reads isn't read by another one.
func TestReadersDoNotShare(t *testing.T) {
	b := []byte{1, 2, 3}
	x, y := NewReader(b), NewReader(b)
	read(t, x, 1, 1, 2)
	read(t, y, 1, 1, 2)
	read(t, x, 1, 2, 1)
	left(t, y, 2)
}

// Both together

// dice makes calls by a rule: no two runs of the tests differ.
type dice uint32

func (d *dice) below(n int) int {
	*d = *d*1664525 + 1013904223
	return int(*d>>16) % n
}

func (d *dice) number() uint64 {
	var n uint64
	for range 8 {
		n = n<<8 | uint64(d.below(256))
	}
	return n
}

type form struct {
	n    uint64
	size int // 0: a text
	text []byte
}

func someForms(d *dice) []form {
	l := make([]form, d.below(12))
	for i := range l {
		if d.below(3) == 0 {
			l[i].text = fill(d.below(20))
			continue
		}
		l[i].size = sizes[d.below(4)]
		l[i].n = d.number() & greatest(l[i].size)
	}
	return l
}

func TestWhatIsLaidIsRead(t *testing.T) {
	d := dice(1)
	for range 3000 {
		forms := someForms(&d)
		w := NewWriter()
		var ends []int
		for _, f := range forms {
			if f.size == 0 {
				laidText(t, w, f.text)
			} else {
				laid(t, w, f.n, f.size)
			}
			if d.below(4) == 0 {
				notLaid(t, w, f.n, 3)
				notLaid(t, w, f.n|0x100, 1)
			}
			ends = append(ends, len(w.Bytes()))
		}
		b := w.Bytes()
		r := NewReader(b)
		for i, f := range forms {
			if d.below(4) == 0 {
				refused(t, r, 3, api.ErrArg)
			}
			if f.size == 0 {
				refusedText(t, r, len(f.text)-1, api.ErrTooMany)
				readText(t, r, len(f.text), f.text, len(b)-ends[i])
			} else {
				read(t, r, f.size, f.n, len(b)-ends[i])
			}
		}
		left(t, r, 0)
	}
}

// plainReader goes by the chapter's words, a byte at a time.
type plainReader struct {
	b  []byte
	at int
}

func (p *plainReader) num(size int) (uint64, api.Errno) {
	if !slices.Contains(sizes, size) {
		return 0, api.ErrArg
	}
	begin := p.at
	for begin%size != 0 {
		begin++
	}
	if begin+size > len(p.b) {
		return 0, api.ErrShort
	}
	for i := p.at; i < begin; i++ {
		if p.b[i] != 0 {
			return 0, api.ErrForm
		}
	}
	var room [8]byte
	copy(room[:], p.b[begin:begin+size])
	p.at = begin + size
	return binary.LittleEndian.Uint64(room[:]), api.OK
}

func (p *plainReader) text(most int) ([]byte, api.Errno) {
	before := p.at
	n, e := p.num(4)
	switch {
	case e != api.OK:
	case int(n) > most:
		e = api.ErrTooMany
	case int(n) > len(p.b)-p.at:
		e = api.ErrShort
	}
	if e != api.OK {
		p.at = before
		return nil, e
	}
	p.at += int(n)
	return p.b[p.at-int(n) : p.at], api.OK
}

func TestReadersOfAnyBytes(t *testing.T) {
	d := dice(2)
	told := map[api.Errno]int{}
	for range 20000 {
		b := make([]byte, d.below(40))
		for i := range b {
			// Many of them are 00 or little, so that there are gaps and lengths among them.
			switch d.below(6) {
			case 0:
				b[i] = byte(d.below(256))
			case 1, 2:
				b[i] = byte(d.below(12))
			}
		}
		r, p := NewReader(b), &plainReader{b: b}
		for range 8 {
			if d.below(3) == 0 {
				most := d.below(14) - 2
				want, wantError := p.text(most)
				got, e := r.Text(most)
				if !bytes.Equal(got, want) || e != wantError {
					t.Fatalf("Text(%d) of % x = % x, %v, not % x, %v", most, b, got, e, want, wantError)
				}
				told[e]++
			} else {
				size := []int{1, 1, 1, 2, 2, 4, 8, 3, 0, -1}[d.below(10)]
				want, wantError := p.num(size)
				got, e := r.Num(size)
				if got != want || e != wantError {
					t.Fatalf("Num(%d) of % x = %#x, %v, not %#x, %v", size, b, got, e, want, wantError)
				}
				told[e]++
			}
			left(t, r, len(b)-p.at)
		}
	}
	for _, e := range []api.Errno{api.OK, api.ErrArg, api.ErrShort, api.ErrForm, api.ErrTooMany} {
		if told[e] < 100 {
			t.Errorf("error %v was told %d times", e, told[e])
		}
	}
}

// R1: what is long ends soon, and a text that is told to be long takes no room.
func TestLongRowsOfForms(t *testing.T) {
	const n = 1000000
	w := NewWriter()
	for i := range n {
		if e := w.Num(uint64(i), 8); e != api.OK {
			t.Fatal(e)
		}
	}
	b := w.Bytes()
	if len(b) != 8*n {
		t.Fatal(len(b))
	}
	r := NewReader(b)
	for i := range n {
		if x, e := r.Num(8); x != uint64(i) || e != api.OK {
			t.Fatal(i, x, e)
		}
	}
	left(t, r, 0)
	long := NewReader([]byte{0xff, 0xff, 0xff, 0xff, 1})
	for range n {
		if x, e := long.Text(math.MaxInt); len(x) != 0 || e != api.ErrShort {
			t.Fatal(x, e)
		}
	}
	left(t, long, 5)
}
