package script_test

import (
	"math"
	"math/rand"
	"regexp"
	"strings"
	"testing"

	"pouch/api"
	"pouch/script"
)

// aLine is what a Line is.
var aLine = regexp.MustCompile(`\A[cs] (-|([0-9a-f][0-9a-f])+)\z`)

// back holds that an Event has a Line, and the Line that Event.
func back(t *testing.T, e event) string {
	t.Helper()
	line := script.Line(e)
	if got, err := script.Parse(line); got != e || err != api.OK {
		t.Fatalf("Parse(%q): %v, %d, want %v", line, got, err, e)
	}
	return line
}

// refused holds that a text is no Event's Line.
func refused(t *testing.T, s string) {
	t.Helper()
	if e, err := script.Parse(s); e != (event{}) || err != api.ErrWord {
		t.Fatalf("Parse(%q): %v, %d", s, e, err)
	}
}

// P15.1, P15.2: Lines, by hand, and back.
func TestP15_1Line(t *testing.T) {
	for want, e := range map[string]event{
		"c -":                {0, ""},
		"s -":                {1, ""},
		"c 00":               {0, "\x00"},
		"s 2002":             {1, "\x20\x02"},
		"c c000":             {0, "\xC0\x00"},
		"s ff":               {1, "\xFF"},
		"c 0123456789abcdef": {0, "\x01\x23\x45\x67\x89\xAB\xCD\xEF"},
		"s fedcba9876543210": {1, "\xFE\xDC\xBA\x98\x76\x54\x32\x10"},
		"c c3a40a2d20":       {0, "ä\n- "},
	} {
		if got := back(t, e); got != want {
			t.Errorf("Line(%v): %q, want %q", e, got, want)
		}
	}
}

// P15.1: another side has no Line.
func TestP15_1LineOfNoSide(t *testing.T) {
	for _, side := range []int{math.MinInt, -256, -1, 2, 3, 99, 115, 256, 257, 1 << 32, 1<<32 + 1, math.MaxInt} {
		for _, b := range []string{"", "\x00", "abc"} {
			if got := script.Line(event{side, b}); got != "" {
				t.Errorf("Line of side %d: %q", side, got)
			}
		}
	}
}

// P15.2: all Events of two bytes at most, and long ones.
func TestP15_2Events(t *testing.T) {
	seen := map[string]event{}
	hold := func(e event) {
		line := back(t, e)
		if !aLine.MatchString(line) {
			t.Fatalf("Line(%v): %q", e, line)
		}
		if other, ok := seen[line]; ok {
			t.Fatalf("%v and %v have one Line", e, other)
		}
		seen[line] = e
	}
	for side := range 2 {
		hold(event{side, ""})
		for a := range 256 {
			hold(event{side, string([]byte{byte(a)})})
			for b := range 256 {
				hold(event{side, string([]byte{byte(a), byte(b)})})
			}
		}
	}
	r := rand.New(rand.NewSource(2))
	for n := range 300 {
		b := make([]byte, 3+n*n)
		r.Read(b)
		hold(event{n % 2, string(b)})
	}
	long := event{1, strings.Repeat("\x00\xFF", 1<<22)}
	if line := back(t, long); line != "s "+strings.Repeat("00ff", 1<<22) {
		t.Error("the Line of a long one is another one")
	}
}

// P15.1, P15.2: of all short texts of some signs those are Lines, and of an Event, that have their form.
func TestP15_2Texts(t *testing.T) {
	signs := "cs -09afg/:`AF\x00\n"
	count := 0
	var grow func(s string, left int)
	grow = func(s string, left int) {
		if aLine.MatchString(s) {
			count++
			e, err := script.Parse(s)
			if err != api.OK || script.Line(e) != s {
				t.Fatalf("Parse(%q): %v, %d", s, e, err)
			}
		} else {
			refused(t, s)
		}
		if left == 0 {
			return
		}
		for i := range len(signs) {
			grow(s+signs[i:i+1], left-1)
		}
	}
	grow("", 4)
	for _, s := range []string{"c ", "s ", "c 0", "s a", "c 00", "s -"} {
		grow(s, 4)
	}
	if count == 0 {
		t.Error("no text is a Line")
	}
}

// P15.1: what is no Event's Line, of all signs at each place.
func TestP15_1NoLine(t *testing.T) {
	for _, line := range []string{"c 00", "s a9f0", "c -", "s -"} {
		for i := range len(line) + 1 {
			for sign := range 256 {
				for _, s := range []string{line[:i] + string([]byte{byte(sign)}) + line[i:], line[:i] + string([]byte{byte(sign)}) + line[min(i+1, len(line)):], line[:i]} {
					if !aLine.MatchString(s) {
						refused(t, s)
					}
				}
			}
		}
	}
	for _, s := range []string{"", " ", "  ", "c", "s", "c ", "s ", " -", " 00", "c  00", "c 00 ", "c 00 00", "c --", "c -00", "c 00-", "c 0", "c 000", "C 00", "cs 00", "c\t00", "c 0x00", "c 0A", "c é0", "0 00", "1 00", "c 00\n", "\x00 00"} {
		refused(t, s)
	}
	refused(t, "c "+strings.Repeat("00", 1<<20)+"0")
	refused(t, "c "+strings.Repeat("00", 1<<20)+"0g")
}
