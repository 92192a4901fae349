package prop_test

import (
	"math"
	"slices"
	"strings"
	"testing"

	"pouch/api"
	"pouch/prop"
)

// The document's table: which kinds, and which of them often.
var table = []struct {
	id           uint8
	kind         int
	kinds, often []int
}{
	{1, prop.Byte, []int{3, 16}, nil},
	{2, prop.Four, []int{3, 16}, nil},
	{3, prop.Text, []int{3, 16}, nil},
	{8, prop.Text, []int{3, 16}, nil},
	{9, prop.Bin, []int{3, 16}, nil},
	{11, prop.Var, []int{3, 8}, []int{3}},
	{17, prop.Four, []int{1, 2, 14}, nil},
	{18, prop.Text, []int{2}, nil},
	{19, prop.Two, []int{2}, nil},
	{21, prop.Text, []int{1, 2, 15}, nil},
	{22, prop.Bin, []int{1, 2, 15}, nil},
	{23, prop.Byte, []int{1}, nil},
	{24, prop.Four, []int{16}, nil},
	{25, prop.Byte, []int{1}, nil},
	{26, prop.Text, []int{2}, nil},
	{28, prop.Text, []int{2, 14}, nil},
	{31, prop.Text, []int{2, 4, 5, 6, 7, 9, 11, 14, 15}, nil},
	{33, prop.Two, []int{1, 2}, nil},
	{34, prop.Two, []int{1, 2}, nil},
	{35, prop.Two, []int{3}, nil},
	{36, prop.Byte, []int{2}, nil},
	{37, prop.Byte, []int{2}, nil},
	{38, prop.Pair, []int{1, 2, 3, 4, 5, 6, 7, 8, 9, 10, 11, 14, 15, 16}, []int{1, 2, 3, 4, 5, 6, 7, 8, 9, 10, 11, 14, 15, 16}},
	{39, prop.Four, []int{1, 2}, nil},
	{40, prop.Byte, []int{2}, nil},
	{41, prop.Byte, []int{2}, nil},
	{42, prop.Byte, []int{2}, nil},
}

// P5.1, P1: each id, in the table or not, of each kind and of what is none.
func TestP5_1Table(t *testing.T) {
	for id := range 256 {
		kind, kinds, often := 0, []int(nil), []int(nil)
		for _, row := range table {
			if int(row.id) == id {
				kind, kinds, often = row.kind, row.kinds, row.often
			}
		}
		if got := prop.Type(uint8(id)); got != kind {
			t.Errorf("Type(%d): %d, want %d", id, got, kind)
		}
		for _, k := range []int{math.MinInt, -1, 0, 1, 2, 3, 4, 5, 6, 7, 8, 9, 10, 11, 12, 13, 14, 15, 16, 17, 259, 1<<32 + 3, math.MaxInt} {
			if got := prop.For(uint8(id), k); got != slices.Contains(kinds, k) {
				t.Errorf("For(%d, %d): %t", id, k, got)
			}
			if got := prop.Often(uint8(id), k); got != slices.Contains(often, k) {
				t.Errorf("Often(%d, %d): %t", id, k, got)
			}
		}
	}
}

// P5.1: the types have these numbers.
func TestP5_1Types(t *testing.T) {
	for id, want := range map[uint8]int{1: 1, 19: 2, 2: 3, 11: 4, 3: 5, 9: 6, 38: 7, 0: 0, 43: 0, 255: 0} {
		if got := prop.Type(id); got != want {
			t.Errorf("Type(%d): %d, want %d", id, got, want)
		}
	}
}

// The greatest number of each type that is one, and texts that are none of a number's.
var most = map[int]uint32{prop.Byte: 255, prop.Two: 65535, prop.Four: math.MaxUint32, prop.Var: api.MaxVar}

var numbers = []uint32{0, 1, 2, 127, 128, 255, 256, 257, 65535, 65536, 65537, 268435455, 268435456, 1 << 31, math.MaxUint32}

// P5.1: numbers, at each edge of each type, with nothing beside.
func TestP5_1RightNumbers(t *testing.T) {
	for id := range 256 {
		limit, ok := most[prop.Type(uint8(id))]
		for _, n := range numbers {
			p := prop.Prop{Id: uint8(id), N: n}
			want := ok && n <= limit
			switch prop.Type(uint8(id)) {
			case prop.Text, prop.Bin, prop.Pair:
				want = n == 0
			}
			if prop.Right(p) != want {
				t.Errorf("Right(%v): %t", p, !want)
			}
			if !ok {
				continue
			}
			for _, beside := range []prop.Prop{{A: "a"}, {B: "b"}, {A: "a", B: "b"}, {A: "\xFF"}, {B: "\x00"}} {
				beside.Id, beside.N = uint8(id), n
				if prop.Right(beside) || prop.Value(beside) {
					t.Errorf("%v is right", beside)
				}
			}
		}
	}
}

// P5.1: texts, bytes and pairs, Right and not.
func TestP5_1RightTexts(t *testing.T) {
	full := strings.Repeat("a", api.MaxText)
	for _, c := range []struct {
		a, b            string
		text, bin, pair bool
	}{
		{"", "", true, true, true},
		{"a", "", true, true, true},
		{"é€😀", "", true, true, true},
		{"a+", "", true, true, true},
		{"", "b", false, false, true},
		{"a", "b", false, false, true},
		{full, "", true, true, true},
		{full, full, false, false, true},
		{full + "a", "", false, false, false},
		{"", full + "a", false, false, false},
		{"\xFF", "", false, true, false},
		{"a\x00", "", false, true, false},
		{"\xED\xA0\x80", "", false, true, false},
		{full[1:] + "\xFF", "", false, true, false},
		{"a", "\xFF", false, false, false},
		{"a", "\x00", false, false, false},
		{"\xFF", "b", false, false, false},
	} {
		for id := range 256 {
			want := false
			switch prop.Type(uint8(id)) {
			case prop.Text:
				want = c.text
			case prop.Bin:
				want = c.bin
			case prop.Pair:
				want = c.pair
			default:
				want = prop.Type(uint8(id)) != 0 && c.a == "" && c.b == ""
			}
			p := prop.Prop{Id: uint8(id), A: c.a, B: c.b}
			if prop.Right(p) != want {
				t.Errorf("Right(%d, %.20q, %.20q): %t", id, c.a, c.b, !want)
			}
			p.N = 1
			if prop.Type(uint8(id)) >= prop.Text && (prop.Right(p) || prop.Value(p)) {
				t.Errorf("%d with a number is right", id)
			}
		}
	}
}

// P5.1, P1: values of numbers, for each id and edge.
func TestP5_1ValueNumbers(t *testing.T) {
	switches := []uint8{1, 23, 25, 36, 37, 40, 41, 42}
	counts := []uint8{11, 33, 35, 39}
	for id := range 256 {
		for _, n := range numbers {
			p := prop.Prop{Id: uint8(id), N: n}
			want := prop.Right(p)
			if slices.Contains(switches, p.Id) {
				want = n <= 1
			}
			if slices.Contains(counts, p.Id) {
				want = want && n != 0
			}
			if p.Id == 8 {
				want = false
			}
			if prop.Value(p) != want {
				t.Errorf("Value(%v): %t", p, !want)
			}
		}
	}
}

// P5.1: values of texts: only that of 8 must be a name.
func TestP5_1ValueTexts(t *testing.T) {
	full := strings.Repeat("a", api.MaxText)
	for _, c := range []struct {
		p    prop.Prop
		want bool
	}{
		{prop.Prop{Id: 8, A: "a"}, true}, {prop.Prop{Id: 8, A: "/"}, true}, {prop.Prop{Id: 8, A: "$share/g/a"}, true}, {prop.Prop{Id: 8, A: full}, true},
		{prop.Prop{Id: 8}, false}, {prop.Prop{Id: 8, A: "a+"}, false}, {prop.Prop{Id: 8, A: "#"}, false}, {prop.Prop{Id: 8, A: "\xFF"}, false}, {prop.Prop{Id: 8, A: full + "a"}, false}, {prop.Prop{Id: 8, A: "a", B: "b"}, false}, {prop.Prop{Id: 8, A: "a", N: 1}, false},
		{prop.Prop{Id: 3}, true}, {prop.Prop{Id: 3, A: "a+"}, true}, {prop.Prop{Id: 18, A: "#"}, true}, {prop.Prop{Id: 21}, true}, {prop.Prop{Id: 26, A: "+"}, true}, {prop.Prop{Id: 28, A: "#"}, true}, {prop.Prop{Id: 31, A: full}, true}, {prop.Prop{Id: 31, A: full + "a"}, false}, {prop.Prop{Id: 31, A: "\x00"}, false},
		{prop.Prop{Id: 9}, true}, {prop.Prop{Id: 9, A: "\xFF\x00"}, true}, {prop.Prop{Id: 22, A: full}, true}, {prop.Prop{Id: 22, A: full + "a"}, false}, {prop.Prop{Id: 9, A: "a", B: "b"}, false},
		{prop.Prop{Id: 38}, true}, {prop.Prop{Id: 38, A: "+", B: "#"}, true}, {prop.Prop{Id: 38, A: "a", B: "\xFF"}, false}, {prop.Prop{Id: 38, N: 1, A: "a", B: "b"}, false},
		{prop.Prop{}, false}, {prop.Prop{Id: 4}, false}, {prop.Prop{Id: 43, A: "a"}, false}, {prop.Prop{Id: 255, N: 1}, false},
		{prop.Prop{Id: 33}, false}, {prop.Prop{Id: 34}, true}, {prop.Prop{Id: 35, N: 1}, true}, {prop.Prop{Id: 1, N: 2}, false}, {prop.Prop{Id: 19, N: 0}, true},
	} {
		if got := prop.Value(c.p); got != c.want {
			t.Errorf("Value(%d, %d, %.20q, %.20q): %t", c.p.Id, c.p.N, c.p.A, c.p.B, got)
		}
	}
}

// P5.1: props compare by ==.
func TestP5_1Compare(t *testing.T) {
	if p := (prop.Prop{Id: 38, A: "a", B: "b"}); p != (prop.Prop{Id: 38, A: "a", B: "b"}) || p == (prop.Prop{Id: 38, A: "a"}) {
		t.Error("props don't compare")
	}
}
