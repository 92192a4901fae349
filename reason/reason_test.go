package reason_test

import (
	"math"
	"slices"
	"strconv"
	"strings"
	"testing"

	"pouch/api"
	"pouch/reason"
)

// The document's table, word for word, and nothing for all other kinds.
var table = []struct {
	kinds              []int
	version5, version4 string
}{
	{[]int{2}, "0, 128 to 138, 140, 144, 149, 151, 153 to 157, 159", "0 to 5"},
	{[]int{4, 5}, "0, 16, 128, 131, 135, 144, 145, 151, 153", "0"},
	{[]int{6, 7}, "0, 146", "0"},
	{[]int{9}, "0, 1, 2, 128, 131, 135, 143, 145, 151, 158, 161, 162", "0, 1, 2, 128"},
	{[]int{11}, "0, 17, 128, 131, 135, 143, 145", "none"},
	{[]int{14}, "0, 4, 128 to 131, 135, 137, 139, 141 to 144, 147 to 162", "0"},
	{[]int{15}, "0, 24, 25", "none"},
}

var versions = []int{math.MinInt, -5, -4, -1, 0, 1, 3, api.V4, api.V5, 6, 260, 261, 1<<32 + 4, 1<<32 + 5, math.MaxInt}

var kinds = []int{math.MinInt, -2, -1, 0, 1, 2, 3, 4, 5, 6, 7, 8, 9, 10, 11, 12, 13, 14, 15, 16, 17, 258, 1<<32 + 2, math.MaxInt}

// number reads a code of the table.
func number(t *testing.T, s string) int {
	n, err := strconv.Atoi(s)
	if err != nil {
		t.Fatal(err)
	}
	return n
}

// codes reads a row of the table.
func codes(t *testing.T, version, kind int) []uint8 {
	row := "none"
	for _, r := range table {
		if slices.Contains(r.kinds, kind) && version == api.V5 {
			row = r.version5
		}
		if slices.Contains(r.kinds, kind) && version == api.V4 {
			row = r.version4
		}
	}
	if row == "none" {
		return nil
	}
	var all []uint8
	for part := range strings.SplitSeq(row, ", ") {
		least, most, ok := strings.Cut(part, " to ")
		if !ok {
			most = least
		}
		for code := number(t, least); code <= number(t, most); code++ {
			all = append(all, uint8(code))
		}
	}
	return all
}

// P3.1, P1: each code of each kind, of the versions and others, is known just if the table has it.
func TestP3_1Known(t *testing.T) {
	for _, version := range versions {
		for _, kind := range kinds {
			want := codes(t, version, kind)
			for code := range 256 {
				if got := reason.Known(version, kind, uint8(code)); got != slices.Contains(want, uint8(code)) {
					t.Errorf("Known(%d, %d, %d): %t", version, kind, code, got)
				}
			}
		}
	}
}

// P3.1, P1: all codes, rising, and none where there is no such version or kind.
func TestP3_1All(t *testing.T) {
	for _, version := range versions {
		for _, kind := range kinds {
			if got, want := reason.All(version, kind), codes(t, version, kind); !slices.Equal(got, want) {
				t.Errorf("All(%d, %d): %d, want %d", version, kind, got, want)
			}
		}
	}
}

// P3.1: the table's rows have so many codes, so that a row read wrongly here shows too.
func TestP3_1HowMany(t *testing.T) {
	for _, c := range []struct{ version, kind, want int }{
		{5, 2, 22}, {5, 4, 9}, {5, 5, 9}, {5, 6, 2}, {5, 7, 2}, {5, 9, 12}, {5, 11, 7}, {5, 14, 29}, {5, 15, 3},
		{4, 2, 6}, {4, 4, 1}, {4, 5, 1}, {4, 6, 1}, {4, 7, 1}, {4, 9, 4}, {4, 11, 0}, {4, 14, 1}, {4, 15, 0},
		{5, 1, 0}, {5, 3, 0}, {5, 8, 0}, {5, 10, 0}, {5, 12, 0}, {5, 13, 0}, {5, 16, 0}, {5, 0, 0}, {5, 17, 0},
	} {
		if got := len(reason.All(c.version, c.kind)); got != c.want {
			t.Errorf("All(%d, %d): %d codes, want %d", c.version, c.kind, got, c.want)
		}
	}
}

// P3.1, P1: a code failed if it is known, and is 128 or more, or a Connack's of version 4 but 0.
func TestP3_1Failed(t *testing.T) {
	for _, version := range versions {
		for _, kind := range kinds {
			known := codes(t, version, kind)
			for code := range 256 {
				bad := code >= 128 || version == 4 && kind == 2 && code != 0
				want := bad && slices.Contains(known, uint8(code))
				if got := reason.Failed(version, kind, uint8(code)); got != want {
					t.Errorf("Failed(%d, %d, %d): %t", version, kind, code, got)
				}
			}
		}
	}
}

// P3.1: the document's examples, and the edges of what fails.
func TestP3_1Examples(t *testing.T) {
	for _, c := range []struct {
		name      string
		got, want bool
	}{
		{"Known(5, 4, 16)", reason.Known(5, 4, 16), true},
		{"Known(4, 4, 16)", reason.Known(4, 4, 16), false},
		{"Failed(4, 2, 5)", reason.Failed(4, 2, 5), true},
		{"Failed(4, 2, 1)", reason.Failed(4, 2, 1), true},
		{"Failed(4, 2, 0)", reason.Failed(4, 2, 0), false},
		{"Failed(4, 2, 6)", reason.Failed(4, 2, 6), false},
		{"Failed(4, 9, 2)", reason.Failed(4, 9, 2), false},
		{"Failed(4, 9, 128)", reason.Failed(4, 9, 128), true},
		{"Failed(5, 2, 128)", reason.Failed(5, 2, 128), true},
		{"Failed(5, 2, 139)", reason.Failed(5, 2, 139), false},
		{"Failed(5, 4, 16)", reason.Failed(5, 4, 16), false},
		{"Failed(5, 14, 4)", reason.Failed(5, 14, 4), false},
		{"Failed(5, 15, 25)", reason.Failed(5, 15, 25), false},
	} {
		if c.got != c.want {
			t.Errorf("%s: %t", c.name, c.got)
		}
	}
}

// P3.2: what is done to an answer shows in no other one, its spare room neither.
func TestP3_2NewMemory(t *testing.T) {
	for _, version := range []int{4, 5} {
		for kind := 1; kind <= 16; kind++ {
			first, second := reason.All(version, kind), reason.All(version, kind)
			for i := range first[:cap(first)] {
				first[:cap(first)][i] = 77
			}
			want := codes(t, version, kind)
			if !slices.Equal(second, want) || !slices.Equal(reason.All(version, kind), want) {
				t.Errorf("All(%d, %d) is shared", version, kind)
			}
			for code := range 256 {
				if reason.Known(version, kind, uint8(code)) != slices.Contains(want, uint8(code)) {
					t.Errorf("Known(%d, %d, %d) hangs on an answer", version, kind, code)
				}
			}
		}
	}
}
