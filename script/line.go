package script

import (
	"strings"

	"pouch/api"
	"pouch/guard"
)

// How a Line tells the sides, that there are no bytes, and what stands in one.
const (
	sideNames = "cs"
	noBytes   = "-"
	blank     = " "
	digits    = "0123456789abcdef"
)

// base is how many digits there are.
const base = len(digits)

func Line(e Event) string {
	if e.Side != guard.Client && e.Side != guard.Server {
		return ""
	}
	var b strings.Builder
	b.Grow(len(blank) + len(noBytes) + 2*len(e.Bytes))
	b.WriteByte(sideNames[e.Side])
	b.WriteString(blank)
	if e.Bytes == "" {
		b.WriteString(noBytes)
	}
	for i := range len(e.Bytes) {
		n := int(e.Bytes[i])
		b.WriteByte(digits[n/base])
		b.WriteByte(digits[n%base])
	}
	return b.String()
}

func Parse(s string) (Event, api.Errno) {
	name, told, ok := strings.Cut(s, blank)
	if !ok || len(name) != 1 {
		return Event{}, api.ErrWord
	}
	side := strings.Index(sideNames, name)
	if side < 0 {
		return Event{}, api.ErrWord
	}
	b, ok := read(told)
	if !ok {
		return Event{}, api.ErrWord
	}
	return Event{Side: side, Bytes: b}, api.OK
}

// read answers the bytes that a Line tells behind its side.
func read(told string) (string, bool) {
	if told == noBytes {
		return "", true
	}
	if told == "" || len(told)%2 != 0 {
		return "", false
	}
	var b strings.Builder
	b.Grow(len(told) / 2)
	for i := 0; i < len(told); i += 2 {
		high, low := strings.IndexByte(digits, told[i]), strings.IndexByte(digits, told[i+1])
		if high < 0 || low < 0 {
			return "", false
		}
		b.WriteByte(byte(base*high + low))
	}
	return b.String(), true
}
