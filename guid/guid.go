// Package guid is layer 1: names that nobody gives twice, as text and in order (see shared/doc/01-guid.md).
package guid

import (
	"slices"

	"tenon/api"
)

const (
	textLength = 38
	digits     = "0123456789abcdef"
	numberAt   = 8 // where a number's bytes begin in its GUID
)

func Print(g api.Guid) string {
	text := make([]byte, 0, textLength)
	text = append(text, '{')
	for i, b := range g {
		if beginsGroup(i) {
			text = append(text, '-')
		}
		text = append(text, digits[b>>4], digits[b&15])
	}
	return string(append(text, '}'))
}

func Parse(s string) (api.Guid, api.Errno) {
	if len(s) != textLength || s[0] != '{' || s[textLength-1] != '}' {
		return api.Guid{}, api.ErrForm
	}
	var g api.Guid
	at := 1
	for i := range len(g) {
		if beginsGroup(i) {
			if s[at] != '-' {
				return api.Guid{}, api.ErrForm
			}
			at++
		}
		high, highOk := digit(s[at])
		low, lowOk := digit(s[at+1])
		if !highOk || !lowOk {
			return api.Guid{}, api.ErrForm
		}
		g[i] = high<<4 | low
		at += 2
	}
	return g, api.OK
}

// beginsGroup: a text has a - ahead of each group but the first.
func beginsGroup(i int) bool {
	return i == 4 || i == 6 || i == 8 || i == 10
}

func digit(c byte) (byte, bool) {
	switch {
	case '0' <= c && c <= '9':
		return c - '0', true
	case 'a' <= c && c <= 'f':
		return c - 'a' + 10, true
	case 'A' <= c && c <= 'F':
		return c - 'A' + 10, true
	}
	return 0, false
}

func Compare(a, b api.Guid) int {
	for i, x := range a {
		if x < b[i] {
			return -1
		}
		if x > b[i] {
			return 1
		}
	}
	return 0
}

func Of(n uint64) api.Guid {
	var g api.Guid
	// The last byte is laid first, because n's lowest byte comes off first.
	for i := range len(g) - numberAt {
		g[len(g)-1-i] = byte(n)
		n >>= 8
	}
	return g
}

func Number(g api.Guid) (uint64, bool) {
	var n uint64
	for i, b := range g {
		if i < numberAt && b != 0 {
			return 0, false
		}
		n = n<<8 | uint64(b)
	}
	return n, true
}

func Sort(l []api.Guid) []api.Guid {
	sorted := make([]api.Guid, len(l))
	copy(sorted, l)
	slices.SortFunc(sorted, Compare)
	return sorted
}
