package guid

import (
	"bytes"
	"encoding/hex"
	"math"
	"slices"
	"strings"
	"testing"

	"tenon/api"
)

// row is a GUID whose bytes all differ, so that none can stand for another.
func row() api.Guid {
	return api.Guid{0x00, 0x11, 0x22, 0x33, 0x44, 0x55, 0x66, 0x77, 0x88, 0x99, 0xaa, 0xbb, 0xcc, 0xdd, 0xee, 0xff}
}

const rowText = "{00112233-4455-6677-8899-aabbccddeeff}"

// many is a set of GUIDs made by a rule: no two runs of the tests differ.
func many(n int) []api.Guid {
	l := make([]api.Guid, n)
	x := uint32(1)
	for i := range l {
		for j := range l[i] {
			x = x*1664525 + 1013904223
			l[i][j] = byte(x >> 24)
		}
	}
	return l
}

func plainText(g api.Guid) string {
	h := hex.EncodeToString(g[:])
	return "{" + h[:8] + "-" + h[8:12] + "-" + h[12:16] + "-" + h[16:20] + "-" + h[20:] + "}"
}

func sign(n int) int {
	return min(max(n, -1), 1)
}

// P1.1

func TestPrint(t *testing.T) {
	tests := []struct {
		g    api.Guid
		text string
	}{
		{api.Guid{}, "{00000000-0000-0000-0000-000000000000}"},
		{row(), rowText},
		{Of(258), "{00000000-0000-0000-0000-000000000102}"},
		{Of(math.MaxUint64), "{00000000-0000-0000-ffff-ffffffffffff}"},
	}
	for _, x := range tests {
		if s := Print(x.g); s != x.text {
			t.Errorf("Print(%v) = %q, not %q", x.g, s, x.text)
		}
	}
	for _, g := range many(500) {
		if s := Print(g); s != plainText(g) {
			t.Errorf("Print(%v) = %q", g, s)
		}
	}
}

func TestPrintEachByteAtEachPlace(t *testing.T) {
	for i := range 16 {
		for b := range 256 {
			var g api.Guid
			g[i] = byte(b)
			if s := Print(g); s != plainText(g) {
				t.Fatalf("Print(%v) = %q", g, s)
			}
		}
	}
}

func TestParse(t *testing.T) {
	tests := []struct {
		text string
		g    api.Guid
	}{
		{"{00000000-0000-0000-0000-000000000000}", api.Guid{}},
		{rowText, row()},
		{strings.ToUpper(rowText), row()},
		{"{00112233-4455-6677-8899-AaBbCcDdEeFf}", row()},
		{"{00112233-4455-6677-8899-aAbBcCdDeEfF}", row()},
		{"{00000000-0000-0000-0000-00000000000A}", Of(10)},
		{"{00000000-0000-0000-FFFF-ffffffffffff}", Of(math.MaxUint64)},
	}
	for _, x := range tests {
		if g, e := Parse(x.text); g != x.g || e != api.OK {
			t.Errorf("Parse(%q) = %v, %v", x.text, g, e)
		}
	}
	for _, g := range many(500) {
		for _, s := range []string{Print(g), strings.ToUpper(Print(g))} {
			if back, e := Parse(s); back != g || e != api.OK {
				t.Errorf("Parse(%q) = %v, %v", s, back, e)
			}
		}
	}
}

func refused(t *testing.T, s string) {
	t.Helper()
	if g, e := Parse(s); e != api.ErrForm || g != (api.Guid{}) {
		t.Errorf("Parse(%q) = %v, %v", s, g, e)
	}
}

func TestParseRefusesWhatIsNoText(t *testing.T) {
	refused(t, "00112233-4455-6677-8899-aabbccddeeff")
	refused(t, "(00112233-4455-6677-8899-aabbccddeeff)")
	refused(t, "{00112233445566778899aabbccddeeff}")
	refused(t, "{0011223344556677-8899-aabbccddeeff---}")
	refused(t, "{00112233-44556-677-8899-aabbccddeeff}")
	refused(t, "{0011-2233-4455-6677-8899aabbccddeeff}")
	refused(t, "}00112233-4455-6677-8899-aabbccddeeff{")
	refused(t, " "+rowText)
	refused(t, rowText+" ")
	refused(t, rowText+rowText)
	refused(t, rowText+"\n")
	refused(t, "{0x112233-4455-6677-8899-aabbccddeeff}")
	refused(t, "{+0112233-4455-6677-8899-aabbccddeeff}")
	refused(t, strings.Repeat("0", textLength))
	refused(t, strings.Repeat("\x00", textLength))
	refused(t, strings.Repeat("\xff", textLength))
	// A digit of full width: its three bytes keep the length, but it isn't one of base 16's digits.
	refused(t, "{\uff11"+rowText[4:])
	for n := range len(rowText) {
		refused(t, rowText[:n])
		refused(t, rowText[n+1:])
		refused(t, rowText[:n]+rowText[n+1:])
		refused(t, rowText[:n]+"0"+rowText[n:])
	}
}

func TestParseEachByteAtEachPlace(t *testing.T) {
	for at := range len(rowText) {
		for c := range 256 {
			b := []byte(rowText)
			b[at] = byte(c)
			s := string(b)
			mark := strings.IndexByte("{-}", rowText[at]) >= 0
			good := strings.IndexByte("0123456789abcdefABCDEF", byte(c)) >= 0
			if mark {
				good = byte(c) == rowText[at]
			}
			if !good {
				refused(t, s)
				continue
			}
			g, e := Parse(s)
			if e != api.OK || plainText(g) != strings.ToLower(s) {
				t.Errorf("Parse(%q) = %v, %v", s, g, e)
			}
		}
	}
}

// P1.2

func TestCompare(t *testing.T) {
	tests := []struct {
		a, b api.Guid
		n    int
	}{
		{api.Guid{}, api.Guid{}, 0},
		{row(), row(), 0},
		{Of(1), Of(256), -1},
		{Of(256), Of(1), 1},
		{Of(255), Of(256), -1},
		{Of(math.MaxUint64), api.Guid{0: 1}, -1},
		{api.Guid{0: 1, 1: 255}, api.Guid{0: 2}, -1},
		{api.Guid{0: 127}, api.Guid{0: 128}, -1},
		{api.Guid{0: 255}, api.Guid{0: 1}, 1},
	}
	for _, x := range tests {
		if n := Compare(x.a, x.b); n != x.n {
			t.Errorf("Compare(%v, %v) = %d, not %d", x.a, x.b, n, x.n)
		}
	}
}

func TestCompareGoesByTheFirstByteThatDiffers(t *testing.T) {
	for i := range 16 {
		a, b := row(), row()
		a[i], b[i] = 0x70, 0x90
		for j := i + 1; j < 16; j++ {
			a[j], b[j] = 0xff, 0
		}
		if Compare(a, b) != -1 || Compare(b, a) != 1 {
			t.Errorf("place %d: %d, %d", i, Compare(a, b), Compare(b, a))
		}
	}
	l := many(60)
	for _, a := range l {
		for _, b := range l {
			if n := Compare(a, b); n != sign(bytes.Compare(a[:], b[:])) {
				t.Errorf("Compare(%v, %v) = %d", a, b, n)
			}
		}
	}
}

func TestSort(t *testing.T) {
	a, b, c := Of(1), Of(256), api.Guid{0: 1}
	tests := []struct{ l, sorted []api.Guid }{
		{nil, nil},
		{[]api.Guid{}, nil},
		{[]api.Guid{c}, []api.Guid{c}},
		{[]api.Guid{b, a, b}, []api.Guid{a, b, b}},
		{[]api.Guid{c, b, a}, []api.Guid{a, b, c}},
		{[]api.Guid{a, b, c}, []api.Guid{a, b, c}},
		{[]api.Guid{a, a, a}, []api.Guid{a, a, a}},
		{[]api.Guid{c, a, c, a, c}, []api.Guid{a, a, c, c, c}},
	}
	for _, x := range tests {
		if s := Sort(x.l); !slices.Equal(s, x.sorted) {
			t.Errorf("Sort(%v) = %v", x.l, s)
		}
	}
}

func TestSortKeepsEachElementAsOften(t *testing.T) {
	l := many(300)
	l = append(l, l[:100]...)
	l = append(l, l[:50]...)
	s := Sort(l)
	if len(s) != len(l) {
		t.Fatal(len(s))
	}
	often := map[api.Guid]int{}
	for _, g := range l {
		often[g]++
	}
	for i, g := range s {
		often[g]--
		if i > 0 && Compare(s[i-1], g) > 0 {
			t.Errorf("place %d: %v ahead of %v", i, s[i-1], g)
		}
	}
	for g, n := range often {
		if n != 0 {
			t.Errorf("%v: %d missing", g, n)
		}
	}
}

// R4: neither the elements nor the room behind them change, and the answer is new memory.
func TestSortLeavesItsListAlone(t *testing.T) {
	a, b, c := Of(1), Of(2), Of(3)
	room := []api.Guid{c, a, b, a}
	s := Sort(room[:2])
	if !slices.Equal(s, []api.Guid{a, c}) {
		t.Error(s)
	}
	s[0], s[1] = row(), row()
	_ = append(s, row())
	if !slices.Equal(room, []api.Guid{c, a, b, a}) {
		t.Error(room)
	}
	sorted := []api.Guid{a, b}
	s = Sort(sorted)
	s[0] = row()
	if sorted[0] != a {
		t.Error("a sorted list shares its memory with the answer")
	}
}

// P1.3

func TestOf(t *testing.T) {
	tests := []struct {
		n uint64
		g api.Guid
	}{
		{0, api.Guid{}},
		{1, api.Guid{15: 1}},
		{255, api.Guid{15: 255}},
		{256, api.Guid{14: 1}},
		{1 << 63, api.Guid{8: 0x80}},
		{0x0102030405060708, api.Guid{8: 1, 9: 2, 10: 3, 11: 4, 12: 5, 13: 6, 14: 7, 15: 8}},
		{math.MaxUint64, api.Guid{8: 255, 9: 255, 10: 255, 11: 255, 12: 255, 13: 255, 14: 255, 15: 255}},
	}
	for _, x := range tests {
		if g := Of(x.n); g != x.g {
			t.Errorf("Of(%d) = %v", x.n, g)
		}
		if n, ok := Number(x.g); n != x.n || !ok {
			t.Errorf("Number(%v) = %d, %v", x.g, n, ok)
		}
	}
}

func TestNumberTakesEachBitBack(t *testing.T) {
	for i := range 64 {
		for _, n := range []uint64{1 << i, 1<<i - 1, ^(uint64(1) << i)} {
			if back, ok := Number(Of(n)); back != n || !ok {
				t.Errorf("Number(Of(%d)) = %d, %v", n, back, ok)
			}
		}
	}
}

func TestNumberRefusesWhatOfDoesNotMake(t *testing.T) {
	none := []api.Guid{row(), {0: 1}, {7: 1}}
	for i := range 8 {
		for bit := range 8 {
			g := Of(258)
			g[i] = 1 << bit
			none = append(none, g)
		}
	}
	for _, g := range none {
		if n, ok := Number(g); n != 0 || ok {
			t.Errorf("Number(%v) = %d, %v", g, n, ok)
		}
	}
}
