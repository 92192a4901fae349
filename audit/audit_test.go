package audit_test

import (
	"fmt"
	"math"
	"slices"
	"strconv"
	"strings"
	"testing"

	"pouch/api"
	"pouch/audit"
	"pouch/guard"
)

type deed = guard.Action

const (
	c = guard.Client
	s = guard.Server
)

var versions = []int{api.V4, api.V5}

// on answers a Forward of what a side sent.
func on(side int, b string) deed {
	return deed{Kind: guard.Forward, Side: side, Bytes: b}
}

// shut answers a Close.
func shut(side int, code uint8) deed {
	return deed{Kind: guard.Close, Side: side, Code: code}
}

// greeted answers how both sides greet in a version.
func greeted(version int) []deed {
	if version == api.V4 {
		return []deed{on(c, "\x10\x0C\x00\x04MQTT\x04\x02\x00\x00\x00\x00"), on(s, "\x20\x02\x00\x00")}
	}
	return []deed{on(c, "\x10\x0D\x00\x04MQTT\x05\x02\x00\x00\x00\x00\x00"), on(s, "\x20\x03\x00\x00\x00")}
}

// then answers a new list of both.
func then(l []deed, more ...deed) []deed {
	return append(slices.Clone(l), more...)
}

// told answers what is told of anything, if it isn't too long.
func told(x any) string {
	s := strconv.Quote(fmt.Sprintf("%+v", x))
	return s[:min(len(s), 600)]
}

// says holds which word is said, and of which Action.
func says(t *testing.T, version int, l []deed, word string, place int) {
	t.Helper()
	if w, i := audit.Check(version, l); w != word || i != place {
		t.Errorf("Check(%d, %s): %q, %d, want %q, %d", version, told(l), w, i, word, place)
	}
}

// P16.1: of none there is nothing to say, whatever the version.
func TestP16_1None(t *testing.T) {
	for _, version := range []int{math.MinInt, -1, 0, 3, 4, 5, 6, math.MaxInt} {
		says(t, version, nil, "", -1)
		says(t, version, []deed{}, "", -1)
	}
}

// P16.1: a version that is none, of whatever Action.
func TestP16_1Version(t *testing.T) {
	for _, version := range []int{math.MinInt, -4, 0, 1, 3, 6, 256 + 4, 1<<32 + 5, math.MaxInt} {
		for _, one := range []deed{{}, greeted(4)[0], greeted(5)[0], shut(c, 130), on(7, "x"), {Kind: 9, Side: 9, Code: 9, Bytes: "x"}} {
			says(t, version, []deed{one}, "version", 0)
			says(t, version, []deed{one, one}, "version", 0)
		}
	}
}

// P16.1: what is no Action that there may be, at each place, ahead of all that is said behind.
func TestP16_1Kind(t *testing.T) {
	for _, version := range versions {
		l := greeted(version)
		b := l[0].Bytes
		var wrong []deed
		for _, kind := range []int{math.MinInt, -1, 0, 3, 4, 257, 1<<32 + 1, math.MaxInt} {
			wrong = append(wrong, deed{Kind: kind}, deed{Kind: kind, Bytes: b}, deed{Kind: kind, Code: 130})
		}
		for _, side := range []int{math.MinInt, -1, 2, 3, 256, 1 << 32, 1<<32 + 1, math.MaxInt} {
			wrong = append(wrong, on(side, b), on(side, ""), shut(side, 130), shut(side, 0))
		}
		for code := 1; code < 256; code++ {
			wrong = append(wrong, deed{Kind: guard.Forward, Code: uint8(code), Bytes: b}, deed{Kind: guard.Forward, Code: uint8(code)})
		}
		wrong = append(wrong, shut(c, 0), shut(s, 0), deed{Kind: guard.Close, Bytes: b}, deed{Kind: guard.Close, Code: 130, Bytes: b}, deed{Kind: guard.Close, Code: 1, Bytes: "\x00"})
		for _, one := range wrong {
			says(t, version, []deed{one}, "kind", 0)
			says(t, version, then(l, one), "kind", 2)
			says(t, version, then(l, one, l[0]), "kind", 2)
			says(t, version, then(l, shut(c, 129), one), "kind", 3)
			says(t, version, then(l, on(c, "\xE0\x00"), one), "kind", 3)
		}
	}
}

// P16.1: a Close, of any code but 0, of both sides, may come at any time, till it is over.
func TestP16_1Close(t *testing.T) {
	for _, version := range versions {
		l := greeted(version)
		for n := range len(l) + 1 {
			for code := 1; code < 256; code++ {
				for _, side := range []int{c, s} {
					says(t, version, then(l[:n], shut(side, uint8(code))), "", -1)
				}
			}
			for _, more := range []deed{shut(c, 130), shut(s, 129), on(c, l[0].Bytes), on(s, l[1].Bytes), on(c, "\xC0\x00"), on(c, "x"), on(s, "")} {
				says(t, version, then(l[:n], shut(s, 130), more), "after", n+1)
				says(t, version, then(l[:n], shut(c, 255), more, shut(c, 1)), "after", n+1)
			}
		}
	}
}

// P16.1: behind what ends a talk nothing is done, no Close either; of what is none it counts that it is late.
func TestP16_1After(t *testing.T) {
	for _, version := range versions {
		l := greeted(version)
		no := on(s, []string{"\x20\x02\x00\x05", "\x20\x03\x00\x80\x00"}[version-4])
		for _, over := range [][]deed{then(l, on(c, "\xE0\x00")), {l[0], on(c, "\xE0\x00")}, {l[0], no}} {
			says(t, version, over, "", -1)
			for _, more := range []deed{shut(c, 130), shut(s, 130), on(c, "\xE0\x00"), on(c, "\xC0\x00"), on(s, l[1].Bytes), on(c, "\x00\x00"), on(s, ""), on(c, l[0].Bytes)} {
				says(t, version, then(over, more), "after", len(over))
				says(t, version, then(over, more, more), "after", len(over))
			}
		}
	}
	l := greeted(5)
	says(t, 5, then(l, on(s, "\xE0\x00"), on(c, "\xC0\x00")), "after", 3)
}

// P16.1: what isn't just one packet that may be.
func TestP16_1Bytes(t *testing.T) {
	for _, version := range versions {
		l := greeted(version)
		for _, b := range []string{"", "\x00", "\x00\x00", "\xC0", "\xC0\x01", "\xC0\x00\x00", "\xC0\x00\xC0\x00", "\xC1\x00", "\x40\x02\x00\x00", "\x30\x04\x00\x01#x", "\xFF\xFF\xFF\xFF\xFF", l[0].Bytes[:5], l[0].Bytes + "\x00", l[0].Bytes + l[0].Bytes} {
			for _, side := range []int{c, s} {
				says(t, version, []deed{on(side, b)}, "bytes", 0)
				says(t, version, then(l, on(side, b), shut(side, 129)), "bytes", 2)
				says(t, version, then(l, on(c, "\xC0\x00"), on(side, b)), "bytes", 3)
			}
		}
		for _, other := range versions {
			if other != version {
				says(t, version, greeted(other), "bytes", 0)
			}
		}
	}
}

// P16.1: what a Guard doesn't let on.
func TestP16_1Refused(t *testing.T) {
	for _, version := range versions {
		l := greeted(version)
		says(t, version, l[1:], "refused", 0)
		says(t, version, []deed{l[1], l[0]}, "refused", 0)
		says(t, version, []deed{on(s, l[0].Bytes)}, "refused", 0)
		says(t, version, []deed{l[0], l[0]}, "refused", 1)
		says(t, version, then(l, l[0]), "refused", 2)
		says(t, version, then(l, l[1], shut(c, 130)), "refused", 2)
		says(t, version, then(l, on(c, "\xD0\x00")), "refused", 2)
		says(t, version, then(l, on(c, "\xC0\x00"), on(s, "\xC0\x00")), "refused", 3)
		says(t, version, then(l, on(c, "\x40\x02\x00\x07")), "refused", 2)
		says(t, version, []deed{on(c, "\xC0\x00")}, "refused", 0)
	}
	l, one := greeted(4), "\x32\x05\x00\x01t\x00\x07"
	says(t, 4, then(l, on(c, one), on(s, one), on(s, "\x40\x02\x00\x07"), on(c, one)), "", -1)
	says(t, 4, then(l, on(c, one), on(s, one), on(c, one)), "refused", 4)
	says(t, 4, then(l, on(s, "\xE0\x00")), "refused", 2)
	says(t, 5, then(greeted(5), on(s, "\xE0\x00")), "", -1)
}

// P16.1: a whole talk of all that there is in version 4.
func TestP16_1Talk(t *testing.T) {
	l := then(greeted(4),
		on(c, "\x82\x06\x00\x01\x00\x01t\x01"), on(s, "\x90\x03\x00\x01\x01"),
		on(c, "\x34\x06\x00\x01t\x00\x02x"), on(s, "\x50\x02\x00\x02"), on(c, "\x62\x02\x00\x02"), on(s, "\x70\x02\x00\x02"),
		on(s, "\x32\x05\x00\x01t\x00\x01"), on(c, "\x40\x02\x00\x01"), on(s, "\x30\x03\x00\x01t"),
		on(c, "\xC0\x00"), on(s, "\xD0\x00"), on(c, "\xA2\x05\x00\x03\x00\x01t"), on(s, "\xB0\x02\x00\x03"), on(c, "\xE0\x00"))
	for n := range len(l) + 1 {
		says(t, 4, l[:n], "", -1)
	}
	kinds := []int{1, 2, 8, 9, 3, 5, 6, 7, 3, 4, 3, 12, 13, 10, 11, 14}
	if got := audit.Kinds(4, l); !slices.Equal(got, kinds) {
		t.Errorf("%v, want %v", got, kinds)
	}
}

// P16.1: the greatest packet is let on.
func TestP16_1Greatest(t *testing.T) {
	b := "\x30\xFF\xFF\xFF\x7F\x00\x01t" + strings.Repeat("x", api.MaxVar-3)
	l := then(greeted(4), on(s, b))
	if len(b) != 268435460 {
		t.Fatal(len(b))
	}
	if w, i := audit.Check(4, l); w != "" || i != -1 {
		t.Error(w, i)
	}
	if got := audit.Kinds(4, l); !slices.Equal(got, []int{1, 2, 3}) {
		t.Error(got)
	}
}

// P16.1: Kinds of Forwards, whatever else they say, in order; of Closes none.
func TestP16_1Kinds(t *testing.T) {
	five := []string{"\x10\x0D\x00\x04MQTT\x05\x02\x00\x00\x00\x00\x00", "\x20\x03\x00\x00\x00", "\x30\x04\x00\x01t\x00", "\x40\x02\x00\x01", "\x50\x02\x00\x01", "\x62\x02\x00\x01", "\x70\x02\x00\x01",
		"\x82\x07\x00\x01\x00\x00\x01t\x01", "\x90\x04\x00\x01\x00\x00", "\xA2\x06\x00\x01\x00\x00\x01t", "\xB0\x04\x00\x01\x00\x00", "\xC0\x00", "\xD0\x00", "\xE0\x00", "\xF0\x06\x00\x04\x15\x00\x01m"}
	var l []deed
	var want []int
	for i, b := range five {
		l = append(l, on(i%2, b), shut(c, 130), deed{Kind: 3, Bytes: b}, deed{Bytes: b}, deed{Kind: guard.Close, Bytes: b}, deed{Kind: guard.Forward, Side: 9, Code: 7, Bytes: b})
		want = append(want, i+1, i+1)
	}
	if got := audit.Kinds(5, l); !slices.Equal(got, want) {
		t.Errorf("%v, want %v", got, want)
	}
	for _, version := range []int{math.MinInt, -1, 0, 3, 6, 256 + 5, 1<<32 + 5} {
		if got := audit.Kinds(version, l); !slices.Equal(got, make([]int, len(want))) {
			t.Errorf("version %d: %v", version, got)
		}
	}
	none := []deed{on(c, ""), on(c, "\xC0"), on(c, "\xC0\x00\x00"), on(c, "\xC0\x00\xC0\x00"), on(c, "\x40\x02\x00\x00"), on(c, "\x00\x00"), on(c, "\xD0\x00"), on(c, "\xF0\x00")}
	if got := audit.Kinds(4, none); !slices.Equal(got, []int{0, 0, 0, 0, 0, 0, 13, 0}) {
		t.Error(got)
	}
	if got := audit.Kinds(4, []deed{on(c, five[0]), on(c, five[14])}); !slices.Equal(got, []int{0, 0}) {
		t.Error(got)
	}
	for _, version := range versions {
		if len(audit.Kinds(version, nil))+len(audit.Kinds(version, []deed{})) != 0 || len(audit.Kinds(version, []deed{shut(c, 130)})) != 0 {
			t.Error("of no Forwards there are kinds")
		}
	}
}
