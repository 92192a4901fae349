package text_test

import (
	"strings"
	"testing"

	"pouch/api"
	"pouch/text"
)

// check tells whether s is Right just if want signs are meant, and none of -1.
func check(t *testing.T, name, s string, want int) {
	t.Helper()
	if got := text.Right(s); got != (want >= 0) {
		t.Errorf("%s: Right of %.20x is %v", name, s, got)
	}
	if got := text.Runes(s); got != max(want, 0) {
		t.Errorf("%s: Runes of %.20x are %d, want %d", name, s, got, want)
	}
}

// P2.1: the least and the greatest sign of each count of bytes, and their neighbours.
func TestP2_1Signs(t *testing.T) {
	for _, s := range []string{
		"\x01", "a", "\x7F",
		"\xC2\x80", "\xC3\xA4", "\xDF\xBF",
		"\xE0\xA0\x80", "\xE2\x82\xAC", "\xED\x9F\xBF", "\xEE\x80\x80", "\xEF\xBF\xBF",
		"\xF0\x90\x80\x80", "\xF0\x9F\x99\x82", "\xF3\xBF\xBF\xBF", "\xF4\x8F\xBF\xBF",
	} {
		check(t, "a sign", s, 1)
		check(t, "among others", "a"+s+"\xC3\xA4", 3)
	}
	check(t, "nothing", "", 0)
}

// P2.1: bytes that aren't a text, alone and among signs.
func TestP2_1NoSigns(t *testing.T) {
	for name, list := range map[string][]string{
		"number 0":         {"\x00"},
		"no first byte":    {"\x80", "\xBF", "\xF8\x88\x80\x80\x80", "\xFC\x84\x80\x80\x80\x80", "\xFE", "\xFF"},
		"more than fewest": {"\xC0\x80", "\xC0\xAF", "\xC1\xBF", "\xE0\x80\x80", "\xE0\x9F\xBF", "\xF0\x80\x80\x80", "\xF0\x8F\xBF\xBF"},
		"D800 to DFFF":     {"\xED\xA0\x80", "\xED\xAF\xBF", "\xED\xB0\x80", "\xED\xBF\xBF", "\xED\xA0\xBD\xED\xB8\x80"},
		"above 10FFFF":     {"\xF4\x90\x80\x80", "\xF4\xBF\xBF\xBF", "\xF5\x80\x80\x80", "\xF7\xBF\xBF\xBF"},
		"bytes lack":       {"\xC3", "\xE2", "\xE2\x82", "\xF0", "\xF0\x9F", "\xF0\x9F\x99"},
		"no further byte":  {"\xC3a", "\xC3\xC3", "\xE2\x82a", "\xE2a\xAC", "\xF0\x9F\x99a", "\xF0\x9F\xFF\x82", "\xF0\x1F\x99\x82"},
		"a byte too many":  {"\xC3\xA4\x80", "\xE2\x82\xAC\x80", "\xF0\x9F\x99\x82\x80"},
	} {
		for _, s := range list {
			check(t, name, s, -1)
			check(t, name+", behind", "a\xE2\x82\xAC"+s, -1)
			check(t, name+", ahead", s+"a", -1)
			check(t, name+", amid", "\xC3\xA4"+s+"\xC3\xA4", -1)
		}
	}
}

// sign lays a number's bits in so many bytes, as the chapter's four rows say.
func sign(n, size int) string {
	switch size {
	case 1:
		return string([]byte{byte(n)})
	case 2:
		return string([]byte{byte(0xC0 + n>>6), byte(0x80 + n&63)})
	case 3:
		return string([]byte{byte(0xE0 + n>>12), byte(0x80 + n>>6&63), byte(0x80 + n&63)})
	}
	return string([]byte{byte(0xF0 + n>>18), byte(0x80 + n>>12&63), byte(0x80 + n>>6&63), byte(0x80 + n&63)})
}

// fewest is the fewest bytes that a number can have.
func fewest(n int) int {
	switch {
	case n < 1<<7:
		return 1
	case n < 1<<11:
		return 2
	case n < 1<<16:
		return 3
	}
	return 4
}

// P2.1: each number in each count of bytes that has room for it is a sign just if the chapter says so.
func TestP2_1AllNumbers(t *testing.T) {
	for size, top := range map[int]int{1: 1 << 7, 2: 1 << 11, 3: 1 << 16, 4: 1 << 21} {
		for n := range top {
			want := n > 0 && n <= 0x10FFFF && (n < 0xD800 || n > 0xDFFF) && fewest(n) == size
			if s := sign(n, size); text.Right(s) != want || text.Runes(s) == 1 != want {
				t.Fatalf("%x in %d bytes: %v, %d", n, size, text.Right(s), text.Runes(s))
			}
		}
	}
}

// P2.1: of all pairs of bytes just these are Right.
func TestP2_1AllPairs(t *testing.T) {
	for x := range 256 {
		for y := range 256 {
			want := -1
			switch {
			case x > 0 && x < 128 && y > 0 && y < 128:
				want = 2
			case x >= 0xC2 && x < 0xE0 && y >= 0x80 && y < 0xC0:
				want = 1
			}
			check(t, "a pair", string([]byte{byte(x), byte(y)}), want)
		}
	}
}

// P2.1: 65535 bytes are a text, one more isn't; bytes count, not signs.
func TestP2_1Length(t *testing.T) {
	most := strings.Repeat("a", api.MaxText)
	check(t, "most", most, api.MaxText)
	check(t, "one more", most+"a", -1)
	check(t, "twice", most+most, -1)
	check(t, "most, of three bytes a sign", strings.Repeat("\xE2\x82\xAC", 21845), 21845)
	check(t, "one more, of three bytes a sign", strings.Repeat("\xE2\x82\xAC", 21845)+"a", -1)
	check(t, "one more, of two bytes a sign", strings.Repeat("\xC3\xA4", 32768), -1)
	check(t, "most, and a last sign of two bytes", most[:65533]+"\xC3\xA4", 65534)
	check(t, "most, and a last sign that is cut", most[:65534]+"\xC3", -1)
	check(t, "most, and a last sign of number 0", most[:65534]+"\x00", -1)
}

// P2.2: two that are Right are, one behind the other, of all their signs.
func TestP2_2Behind(t *testing.T) {
	list := []string{"", "a", "\x01\x7F", "\xC2\x80", "\xED\x9F\xBF\xEE\x80\x80", "\xF4\x8F\xBF\xBF", "a/\xC3\xA4/\xE2\x82\xAC", strings.Repeat("\xC3\xA4", 16384)}
	for _, s := range list {
		for _, u := range list {
			want := text.Runes(s) + text.Runes(u)
			if len(s)+len(u) > api.MaxText {
				want = -1
			}
			check(t, "one behind the other", s+u, want)
		}
	}
}

// P2.2: what is cut within a sign isn't Right, on neither side; what is cut between signs is.
func TestP2_2Cut(t *testing.T) {
	const s = "a\xC3\xA4\xE2\x82\xAC\xF0\x9F\x99\x82b\xF4\x8F\xBF\xBF"
	between := map[int]bool{0: true, 1: true, 3: true, 6: true, 10: true, 11: true, 15: true}
	for i := range len(s) + 1 {
		if text.Right(s[:i]) != between[i] || text.Right(s[i:]) != between[i] {
			t.Errorf("cut at %d: %v, %v", i, text.Right(s[:i]), text.Right(s[i:]))
		}
		if between[i] && text.Runes(s[:i])+text.Runes(s[i:]) != text.Runes(s) {
			t.Errorf("cut at %d: %d and %d signs", i, text.Runes(s[:i]), text.Runes(s[i:]))
		}
	}
}
