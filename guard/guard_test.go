package guard_test

import (
	"math"
	"slices"
	"strings"
	"testing"

	"pouch/alias"
	"pouch/api"
	"pouch/guard"
	"pouch/ids"
	"pouch/packet"
	"pouch/prop"
)

const (
	c = guard.Client
	s = guard.Server
)

var versions = []int{api.V4, api.V5}

// step is a packet of a side, and the code that refuses it (0: it goes on).
type step struct {
	side int
	p    pack
	code uint8
}

// talk does steps, holds what is done against them, and against the model.
func talk(t *testing.T, version int, l ...step) *pair {
	t.Helper()
	p := paired(t, version, 268435460)
	more(t, p, l...)
	return p
}

// more goes on with a talk.
func more(t *testing.T, p *pair, l ...step) {
	t.Helper()
	for i, one := range l {
		b := laid(t, p.m.version, one.p)
		want := deed{Kind: guard.Forward, Side: one.side, Bytes: b}
		if one.code != 0 {
			want = deed{Kind: guard.Close, Side: one.side, Code: one.code}
		}
		if got := p.feed(one.side, b); len(got) != 1 || got[0] != want {
			t.Errorf("version %d, step %d, side %d, kind %d: does %s, want %s", p.m.version, i, one.side, one.p.Kind, told(got), told(want))
		}
		if one.code != 0 && p.g.Phase() != guard.Over {
			t.Errorf("version %d, step %d: phase %d behind a Close", p.m.version, i, p.g.Phase())
		}
	}
}

// phase holds how far a talk is.
func phase(t *testing.T, p *pair, want int) {
	t.Helper()
	if got := p.g.Phase(); got != want {
		t.Errorf("phase %d, want %d", got, want)
	}
}

func connect(l ...prop.Prop) pack { return pack{Kind: api.Connect, Clean: true, Props: l} }

func connack(l ...prop.Prop) pack { return pack{Kind: api.Connack, Props: l} }

func publish(qos uint8, id uint16, l ...prop.Prop) pack {
	return pack{Kind: api.Publish, QoS: qos, Id: id, Topic: "t", Props: l}
}

func answer(kind int, id uint16) pack { return pack{Kind: kind, Id: id} }

func coded(kind int, id uint16, codes ...uint8) pack { return pack{Kind: kind, Id: id, Codes: codes} }

func filters(kind int, id uint16, texts ...string) pack {
	p := pack{Kind: kind, Id: id}
	for _, text := range texts {
		p.Filters = append(p.Filters, packet.Filter{Text: text})
	}
	return p
}

func auth(code uint8, method string) pack {
	return pack{Kind: api.Auth, Code: code, Props: prs{{Id: 21, A: method}}}
}

func bye(l ...prop.Prop) pack { return pack{Kind: api.Disconnect, Props: l} }

// open answers a talk that is Open, of a Connect and a Connack with these properties.
func open(t *testing.T, version int, ofClient, ofServer prs) *pair {
	t.Helper()
	p := talk(t, version, step{c, connect(ofClient...), 0}, step{s, connack(ofServer...), 0})
	phase(t, p, guard.Open)
	return p
}

// P14.1: New, of versions that are none, and of too few bytes; the least and the greatest that may be.
func TestP14_1New(t *testing.T) {
	for _, version := range []int{math.MinInt, -4, 0, 1, 3, 6, 256 + 4, 1<<32 + 5, math.MaxInt} {
		for _, most := range []int{-1, 0, 1, 2, 100, math.MaxInt} {
			if g, err := guard.New(version, most); g != nil || err != api.ErrArg {
				t.Errorf("New(%d, %d): %v, %d", version, most, g, err)
			}
		}
	}
	for _, version := range versions {
		for _, most := range []int{math.MinInt, -100, -1, 0, 1} {
			if g, err := guard.New(version, most); g != nil || err != api.ErrArg {
				t.Errorf("New(%d, %d): %v, %d", version, most, g, err)
			}
		}
		for _, most := range []int{2, 3, 100, 268435460, 268435461, math.MaxInt} {
			made(t, version, most)
		}
	}
}

// P14.1: a nil Guard has nothing, and is Over.
func TestP14_1Nil(t *testing.T) {
	var g *guard.Guard
	for _, side := range []int{math.MinInt, -1, 0, 1, 2, math.MaxInt} {
		for _, b := range []string{"", "\x10", "\xC0\x00", laid(t, api.V4, connect())} {
			if got := g.Feed(side, []byte(b)); len(got) != 0 {
				t.Errorf("Feed(%d, %s) of nil: %v", side, told(b), got)
			}
		}
		if len(g.Ids(side))+len(g.Aliases(side)) != 0 || g.Phase() != guard.Over {
			t.Errorf("nil: %v, %v, %d", g.Ids(side), g.Aliases(side), g.Phase())
		}
	}
}

// P14.1: of a side that is none nothing is taken, and nothing in use.
func TestP14_1NoSide(t *testing.T) {
	for _, version := range versions {
		for _, side := range []int{math.MinInt, -1, 2, 3, 256, 1 << 32, 1<<32 + 1, math.MaxInt} {
			p := paired(t, version, 100)
			b := laid(t, version, connect())
			p.feed(c, b[:5])
			for _, wrong := range []string{b[5:], b, "\xC0\x00", "\x00\x00", "\xFF\xFF\xFF\xFF\xFF"} {
				if got := p.feed(side, wrong); len(got) != 0 {
					t.Errorf("Feed(%d): %v", side, got)
				}
			}
			phase(t, p, guard.Fresh)
			if got := p.feed(c, b[5:]); len(got) != 1 || got[0].Bytes != b {
				t.Errorf("behind Feed(%d): %v", side, got)
			}
			more(t, p, step{s, connack(), 0}, step{c, publish(1, 7), 0}, step{s, publish(1, 8), 0})
			if len(p.g.Ids(side))+len(p.g.Aliases(side)) != 0 {
				t.Errorf("side %d: %v, %v", side, p.g.Ids(side), p.g.Aliases(side))
			}
		}
	}
}

// P14.1: the document's example, and how far it is.
func TestP14_1Example(t *testing.T) {
	for _, version := range versions {
		p := paired(t, version, 100)
		phase(t, p, guard.Fresh)
		more(t, p, step{c, connect(), 0})
		phase(t, p, guard.Connected)
		more(t, p, step{s, connack(), 0})
		phase(t, p, guard.Open)
		more(t, p, step{c, connect(), 130})
		phase(t, p, guard.Over)
	}
}

// P14.1: names of what is told.
func TestP14_1Numbers(t *testing.T) {
	got := [...]int{guard.Client, guard.Server, guard.Forward, guard.Close, guard.Fresh, guard.Connected, guard.Open, guard.Over}
	if got != [...]int{0, 1, 1, 2, 0, 1, 2, 3} {
		t.Error(got)
	}
	if (deed{Kind: 1, Side: 1, Bytes: "a"}) != (deed{Kind: 1, Side: 1, Bytes: "a"}) || (deed{Bytes: "a"}) == (deed{Bytes: "b"}) {
		t.Error("Actions don't compare")
	}
}

// oneOf answers a packet of a kind that may be in a version.
func oneOf(version, kind int) pack {
	switch kind {
	case api.Connect:
		return connect()
	case api.Publish:
		return publish(1, 9)
	case api.Subscribe, api.Unsubscribe:
		return filters(kind, 9, "a")
	case api.Puback, api.Pubrec, api.Pubrel, api.Pubcomp:
		return answer(kind, 9)
	case api.Suback:
		return coded(kind, 9, 0)
	case api.Unsuback:
		if version == api.V4 {
			return answer(kind, 9)
		}
		return coded(kind, 9, 0)
	case api.Auth:
		return auth(24, "m")
	}
	return pack{Kind: kind}
}

// kindSet tells kinds that go on, at a place of a talk, of both sides.
type kindSet struct {
	name     string
	lead     []step
	of       [2][]int
	fiveOnly bool
}

// P14.1: each kind of each side in each phase: which go on, or are refused for what they say alone (by 130, too), and that nothing else goes on.
func TestP14_1Kinds(t *testing.T) {
	m := prop.Prop{Id: 21, A: "m"}
	begun := []step{{c, connect(), 0}}
	open := []step{{c, connect(), 0}, {s, connack(), 0}}
	proving := []step{{c, connect(m), 0}}
	asked := []step{{c, connect(m), 0}, {s, auth(24, "m"), 0}}
	proved := []step{{c, connect(m), 0}, {s, connack(), 0}}
	for _, version := range versions {
		last := []int{}
		if version == api.V5 {
			last = []int{14}
		}
		for _, set := range []kindSet{
			{"fresh", nil, [2][]int{{1}, {}}, false},
			{"connected", begun, [2][]int{{3, 8, 10, 12, 14}, {2}}, false},
			{"open", open, [2][]int{{3, 8, 10, 12, 14}, append([]int{3, 13}, last...)}, false},
			{"proving", proving, [2][]int{{14}, {2, 15}}, true},
			{"asked", asked, [2][]int{{14, 15}, {}}, true},
			{"proved", proved, [2][]int{{3, 8, 10, 12, 14}, {3, 13, 14}}, true},
		} {
			if set.fiveOnly && version == api.V4 {
				continue
			}
			for side := range 2 {
				for kind := 1; kind <= 10+version && kind <= 15; kind++ {
					p := talk(t, version, set.lead...)
					code := uint8(130)
					if slices.Contains(set.of[side], kind) {
						code = 0
					}
					b := laid(t, version, oneOf(version, kind))
					got := p.feed(side, b)
					if len(got) != 1 || got[0].Code != code || (got[0].Kind == guard.Forward) != (code == 0) {
						t.Errorf("version %d, %s, side %d, kind %d: does %s, want code %d", version, set.name, side, kind, told(got), code)
					}
				}
			}
		}
	}
}

// P14.1: what answers goes on of the side that may send it, just once, where there is something to be answered.
func TestP14_1Answers(t *testing.T) {
	for _, version := range versions {
		unsuback := coded(api.Unsuback, 6, 0, 17)
		if version == api.V4 {
			unsuback = answer(api.Unsuback, 6)
		}
		lead := []step{
			{c, publish(1, 1), 0}, {c, publish(2, 2), 0}, {c, publish(2, 3), 0}, {s, answer(api.Pubrec, 3), 0}, {c, publish(2, 4), 0}, {s, answer(api.Pubrec, 4), 0}, {c, answer(api.Pubrel, 4), 0},
			{c, filters(api.Subscribe, 5, "a", "b"), 0}, {c, filters(api.Unsubscribe, 6, "a", "b"), 0},
			{s, publish(1, 1), 0}, {s, publish(2, 2), 0}, {s, publish(2, 3), 0}, {c, answer(api.Pubrec, 3), 0}, {s, publish(2, 4), 0}, {c, answer(api.Pubrec, 4), 0}, {s, answer(api.Pubrel, 4), 0},
		}
		n := 2
		if version == api.V4 {
			n = 0
		}
		first := ids.Table{{Id: 1, State: 1}, {Id: 2, State: 2}, {Id: 3, State: 3}, {Id: 4, State: 4}}
		both := [2]ids.Table{append(slices.Clone(first), ids.Row{Id: 5, State: 5, N: 2}, ids.Row{Id: 6, State: 6, N: n}), first}
		p := open(t, version, nil, nil)
		more(t, p, lead...)
		for side := range 2 {
			if got := p.g.Ids(side); !slices.Equal(got, both[side]) {
				t.Errorf("version %d: Ids(%d) %v, want %v", version, side, got, both[side])
			}
		}
		// Whose number, of which, an answer of a side goes to; all others are refused.
		right := map[int]uint16{api.Puback: 1, api.Pubrec: 2, api.Pubrel: 3, api.Pubcomp: 4, api.Suback: 5, api.Unsuback: 6}
		for side := range 2 {
			for kind, id := range right {
				for try := uint16(1); try <= 7; try++ {
					a := answer(kind, try)
					switch {
					case kind == api.Suback:
						a = coded(kind, try, 0, 128)
					case kind == api.Unsuback:
						a = unsuback
						a.Id = try
					}
					whose := 1 - side
					if kind == api.Pubrel {
						whose = side
					}
					code := uint8(130)
					if try == id && (side == s || kind < api.Suback) {
						code = 0
					}
					p := open(t, version, nil, nil)
					more(t, p, append(slices.Clone(lead), step{side, a, code})...)
					if code != 0 {
						continue
					}
					if got := p.g.Ids(whose); slices.Equal(got, both[whose]) || !slices.Equal(p.g.Ids(1-whose), both[1-whose]) {
						t.Errorf("version %d, side %d, kind %d, id %d: %v", version, side, kind, try, got)
					}
					more(t, p, step{side, a, 130})
				}
			}
		}
	}
}

// P14.1: a Pubrec that failed ends a message, by version 5's codes; one that didn't goes on.
func TestP14_1Failed(t *testing.T) {
	for side := range 2 {
		for _, code := range []uint8{0, 16, 128, 131, 135, 144, 145, 151, 153} {
			p := open(t, api.V5, nil, nil)
			rec, ack := answer(api.Pubrec, 7), answer(api.Puback, 8)
			rec.Code, ack.Code = code, code
			more(t, p, step{side, publish(2, 7), 0}, step{side, publish(1, 8), 0}, step{1 - side, rec, 0}, step{1 - side, ack, 0})
			want := ids.Table{{Id: 7, State: ids.Released}}
			if code >= 128 {
				want = nil
			}
			if got := p.g.Ids(side); !slices.Equal(got, want) {
				t.Errorf("code %d: %v", code, got)
			}
			more(t, p, step{1 - side, rec, 130})
		}
		rel, comp := answer(api.Pubrel, 7), answer(api.Pubcomp, 7)
		rel.Code, comp.Code = 146, 146
		p := open(t, api.V5, nil, nil)
		more(t, p, step{side, publish(2, 7), 0}, step{1 - side, answer(api.Pubrec, 7), 0}, step{side, rel, 0}, step{1 - side, comp, 0}, step{side, publish(2, 7), 0})
	}
}

// P14.1: a number is in use of each side by itself, whatever for.
func TestP14_1InUse(t *testing.T) {
	for _, version := range versions {
		opens := []pack{publish(1, 7), publish(2, 7), filters(api.Subscribe, 7, "a"), filters(api.Unsubscribe, 7, "a")}
		for i, first := range opens {
			for _, second := range opens {
				p := open(t, version, nil, nil)
				more(t, p, step{c, first, 0}, step{c, publish(0, 0), 0}, step{s, publish(1, 7), 0}, step{c, second, 130})
				if i < 2 {
					second.Dup = second.Kind == api.Publish
					p = open(t, version, nil, nil)
					more(t, p, step{s, first, 0}, step{s, publish(0, 0), 0}, step{c, second, 0}, step{s, opens[i], 130})
				}
			}
		}
		p := open(t, version, nil, nil)
		more(t, p, step{c, publish(1, 65535), 0}, step{c, publish(1, 1), 0}, step{s, answer(api.Puback, 65535), 0}, step{c, publish(2, 65535), 0})
		if want := (ids.Table{{Id: 1, State: 1}, {Id: 65535, State: 2}}); !slices.Equal(p.g.Ids(c), want) || len(p.g.Ids(s)) != 0 {
			t.Errorf("%v, %v", p.g.Ids(c), p.g.Ids(s))
		}
	}
}

// P14.1: as many codes as there were filters.
func TestP14_1Codes(t *testing.T) {
	for _, version := range versions {
		for n := 1; n <= 3; n++ {
			texts := []string{"a", "b", "c"}[:n]
			for m := 1; m <= 4; m++ {
				code := uint8(130)
				if n == m {
					code = 0
				}
				p := open(t, version, nil, nil)
				more(t, p, step{c, filters(api.Subscribe, 7, texts...), 0}, step{s, coded(api.Suback, 7, make([]uint8, m)...), code})
				if version == api.V5 {
					p = open(t, version, nil, nil)
					more(t, p, step{c, filters(api.Unsubscribe, 7, texts...), 0}, step{s, coded(api.Unsuback, 7, make([]uint8, m)...), code})
				}
			}
			if version == api.V4 {
				p := open(t, version, nil, nil)
				more(t, p, step{c, filters(api.Unsubscribe, 7, texts...), 0}, step{s, answer(api.Unsuback, 7), 0}, step{c, publish(1, 7), 0})
			}
		}
		many := slices.Repeat([]string{"a"}, api.MaxList)
		p := open(t, version, nil, nil)
		more(t, p, step{c, filters(api.Subscribe, 7, many...), 0}, step{s, coded(api.Suback, 7, make([]uint8, api.MaxList)...), 0})
	}
}

// P14.1: a Connack: what refuses it, in order, and what comes of it.
func TestP14_1Connack(t *testing.T) {
	named := func(p pack) pack { p.Client = "a"; return p }
	kept := func(p pack) pack { p.Client, p.Clean = "a", false; return p }
	present := func(p pack) pack { p.Present = true; return p }
	failed := func(p pack, code uint8) pack { p.Code = code; return p }
	m, other, given := prop.Prop{Id: 21, A: "m"}, prop.Prop{Id: 21, A: "n"}, prop.Prop{Id: 18, A: "g"}
	for i, row := range []struct {
		version  int
		ask, get pack
		code     uint8
		phase    int
	}{
		{4, kept(connect()), present(connack()), 0, guard.Open},
		{4, kept(connect()), connack(), 0, guard.Open},
		{4, named(connect()), present(connack()), 130, guard.Over},
		{4, named(connect()), connack(), 0, guard.Open},
		{4, connect(), failed(connack(), 1), 0, guard.Over},
		{4, connect(), failed(connack(), 5), 0, guard.Over},
		{5, kept(connect()), present(connack()), 0, guard.Open},
		{5, connect(), present(connack()), 130, guard.Over},
		{5, connect(), connack(given), 0, guard.Open},
		{5, named(connect()), connack(given), 130, guard.Over},
		{5, kept(connect()), connack(given), 130, guard.Over},
		{5, connect(), failed(connack(given), 128), 0, guard.Over},
		{5, named(connect()), failed(connack(given), 128), 130, guard.Over},
		{5, connect(), connack(m), 130, guard.Over},
		{5, connect(), failed(connack(m), 128), 130, guard.Over},
		{5, connect(m), connack(m), 0, guard.Open},
		{5, connect(m), connack(), 0, guard.Open},
		{5, connect(m), connack(other), 130, guard.Over},
		{5, connect(m), failed(connack(other), 135), 130, guard.Over},
		{5, connect(m), failed(connack(m), 135), 0, guard.Over},
		{5, connect(m), failed(connack(), 159), 0, guard.Over},
		{5, connect(prop.Prop{Id: 21}), connack(prop.Prop{Id: 21}), 0, guard.Open},
		{5, connect(prop.Prop{Id: 21}), connack(m), 130, guard.Over},
		{5, connect(m), connack(prop.Prop{Id: 21}), 130, guard.Over},
		{5, connect(), connack(prop.Prop{Id: 21}), 130, guard.Over},
	} {
		p := talk(t, row.version, step{c, row.ask, 0}, step{s, row.get, row.code})
		if p.g.Phase() != row.phase {
			t.Errorf("row %d: phase %d", i, p.g.Phase())
		}
	}
	// While the client is asked, a Connack comes just to tell that it failed.
	talk(t, 5, step{c, connect(m), 0}, step{s, auth(24, "m"), 0}, step{s, connack(m), 130})
	talk(t, 5, step{c, connect(m), 0}, step{s, auth(24, "m"), 0}, step{s, failed(connack(m), 128), 0})
	talk(t, 5, step{c, connect(m), 0}, step{s, auth(24, "m"), 0}, step{c, auth(24, "m"), 0}, step{s, connack(m), 0}, step{s, connack(m), 130})
}

// P14.1: behind a Connack that failed nothing is done, also of the same piece.
func TestP14_1ConnackFailed(t *testing.T) {
	for _, row := range []struct {
		version int
		code    uint8
	}{{4, 1}, {4, 5}, {5, 128}, {5, 159}} {
		refusal := laid(t, row.version, pack{Kind: api.Connack, Code: row.code})
		for _, tail := range []string{"", "\xD0\x00", "\xD0", "\xFF\xFF", "\x00\x00", refusal} {
			p := talk(t, row.version, step{c, connect(), 0})
			got := p.feed(s, refusal+tail)
			if len(got) != 1 || got[0] != (deed{Kind: guard.Forward, Side: s, Bytes: refusal}) || p.g.Phase() != guard.Over {
				t.Errorf("%v, %s: %s", row, told(tail), told(got))
			}
			if len(p.feed(c, "\xC0\x00"))+len(p.feed(s, tail+"\xD0\x00")) != 0 {
				t.Errorf("%v, %s: goes on", row, told(tail))
			}
		}
	}
}

// P14.1: a client needn't wait for the Connack, where it has nothing to prove; till then it may send what all servers take.
func TestP14_1Early(t *testing.T) {
	limited := connack(prop.Prop{Id: 33, N: 1}, prop.Prop{Id: 34, N: 1}, prop.Prop{Id: 36, N: 1}, prop.Prop{Id: 37}, prop.Prop{Id: 39, N: 10}, prop.Prop{Id: 40}, prop.Prop{Id: 41}, prop.Prop{Id: 42})
	kept := publish(2, 2)
	kept.Retain, kept.Load = true, "0123456789"
	sub := filters(api.Subscribe, 3, "$share/g/#", "+")
	sub.Props = prs{{Id: 11, N: 1}}
	lead := []step{{c, connect(), 0}, {c, publish(1, 1), 0}, {c, kept, 0}, {c, sub, 0}, {c, filters(api.Unsubscribe, 4, "+"), 0}, {c, pack{Kind: api.Pingreq}, 0}}
	p := talk(t, api.V5, lead...)
	more(t, p, step{s, answer(api.Puback, 1), 130})
	p = talk(t, api.V5, lead...)
	more(t, p, step{s, limited, 0}, step{s, answer(api.Puback, 1), 0}, step{c, publish(1, 5), 147})
	p = talk(t, api.V5, lead...)
	more(t, p, step{s, limited, 0}, step{s, answer(api.Puback, 1), 0}, step{s, answer(api.Pubrec, 2), 0}, step{c, answer(api.Pubrel, 2), 0}, step{s, answer(api.Pubcomp, 2), 0}, step{c, publish(1, 5), 0})
	talk(t, api.V5, step{c, connect(), 0}, step{c, publish(0, 0, prop.Prop{Id: 35, N: 1}), 148})
	talk(t, api.V5, step{c, connect(), 0}, step{c, answer(api.Puback, 1), 130})
	talk(t, api.V5, step{c, connect(), 0}, step{c, bye(), 0})
}

// P14.1: packets of as many bytes as the other side takes, and of one more.
func TestP14_1Size(t *testing.T) {
	for side := range 2 {
		for _, size := range []int{5, 10, 127, 129, 131, 200, 16385} {
			var both [2]prs
			both[1-side] = prs{{Id: 39, N: uint32(size)}}
			fits := publish(0, 0)
			for len(laid(t, api.V5, fits)) < size {
				fits.Load += "x"
			}
			long := fits
			long.Load += "x"
			over := uint8(149)
			if len(laid(t, api.V5, fits)) > size {
				// The load's first byte more let its Var grow by one.
				continue
			}
			if side == c {
				p := open(t, api.V5, both[0], both[1])
				more(t, p, step{c, fits, 0}, step{c, long, over})
				continue
			}
			if size < len(laid(t, api.V5, connack())) {
				continue
			}
			p := open(t, api.V5, both[0], both[1])
			more(t, p, step{s, fits, 0}, step{s, long, over})
		}
	}
	// A Connack and an Auth are held against what the client takes, too; a Connect against nothing.
	for size := uint32(1); size <= 12; size++ {
		want := func(p pack) uint8 {
			if len(laid(t, api.V5, p)) > int(size) {
				return 149
			}
			return 0
		}
		l := prop.Prop{Id: 39, N: size}
		talk(t, api.V5, step{c, connect(l), 0}, step{s, connack(), want(connack())})
		named := connack(prop.Prop{Id: 18, A: "g"})
		talk(t, api.V5, step{c, connect(l), 0}, step{s, named, want(named)})
		ask := auth(24, "m")
		talk(t, api.V5, step{c, connect(prop.Prop{Id: 21, A: "m"}, l), 0}, step{s, ask, want(ask)})
	}
	// A kind that may not come is 130 ahead of 149; what a packet says is behind it.
	few := prs{{Id: 39, N: 5}}
	p := open(t, api.V5, few, nil)
	more(t, p, step{s, filters(api.Subscribe, 1, "abcdefgh"), 130})
	p = open(t, api.V5, few, nil)
	more(t, p, step{s, connack(prop.Prop{Id: 31, A: "abcdefgh"}), 130})
	p = open(t, api.V5, nil, few)
	more(t, p, step{c, connect(), 130})
	for _, long := range []pack{filters(api.Subscribe, 1, "abcdefgh"), filters(api.Unsubscribe, 1, "abcdefgh"), publish(1, 1), {Kind: api.Puback, Id: 9, Code: 16, Props: prs{{Id: 31}}}, auth(25, "m"), bye(prop.Prop{Id: 17, N: 1}), bye(prop.Prop{Id: 31})} {
		p = open(t, api.V5, nil, few)
		more(t, p, step{c, long, 149})
	}
	for _, long := range []pack{coded(api.Suback, 1, 0), coded(api.Unsuback, 1, 0), auth(0, "m"), bye(prop.Prop{Id: 17, N: 1})} {
		p = open(t, api.V5, few, nil)
		more(t, p, step{s, long, 149})
	}
}

// P14.1: a Publish: each of what refuses it, and that in order.
func TestP14_1Publish(t *testing.T) {
	retained := func(p pack) pack { p.Retain = true; return p }
	unnamed := func(p pack) pack { p.Topic = ""; return p }
	short := func(n uint32) prop.Prop { return prop.Prop{Id: 35, N: n} }
	eleven := prop.Prop{Id: 11, N: 5}
	limits := prs{{Id: 33, N: 1}, {Id: 34, N: 2}, {Id: 36, N: 1}, {Id: 37}}
	for _, row := range []struct {
		p    pack
		code uint8
	}{
		{publish(1, 9), 147}, {publish(0, 0), 0},
		{publish(2, 9), 155}, {retained(publish(2, 9)), 155}, {publish(2, 9, eleven, short(3)), 155}, {publish(2, 1), 155},
		{retained(publish(0, 0)), 154}, {retained(publish(0, 0, eleven)), 154}, {retained(publish(1, 1, short(3))), 154},
		{publish(0, 0, eleven), 130}, {publish(0, 0, eleven, eleven), 130}, {publish(0, 0, eleven, short(3)), 130}, {publish(1, 9, eleven), 130},
		{publish(0, 0, short(3)), 148}, {unnamed(publish(0, 0, short(3))), 148}, {publish(1, 1, short(65535)), 148}, {publish(0, 0, short(256)), 148},
		{publish(0, 0, short(2)), 0}, {unnamed(publish(0, 0, short(1))), 0},
		{unnamed(publish(0, 0, short(2))), 130}, {unnamed(publish(1, 9, short(2))), 130},
		{publish(1, 9, short(2)), 147}, {publish(1, 1), 147}, {unnamed(publish(1, 1, short(1))), 147},
	} {
		p := open(t, api.V5, nil, limits)
		more(t, p, step{c, publish(1, 1, short(1)), 0}, step{c, row.p, row.code})
	}
	p := open(t, api.V5, nil, prs{{Id: 33, N: 2}})
	more(t, p, step{c, publish(1, 1), 0}, step{c, publish(1, 1), 130})
	// The client's limits are what a server is held against: Receive, Alias and Size alone; and it may tell of filters' numbers.
	p = open(t, api.V5, prs{{Id: 33, N: 1}, {Id: 34, N: 2}}, limits)
	more(t, p, step{s, retained(publish(2, 9, eleven, eleven, short(2))), 0}, step{s, publish(0, 0, short(1)), 0}, step{s, publish(1, 8), 147})
	p = open(t, api.V5, prs{{Id: 34, N: 2}}, limits)
	more(t, p, step{s, publish(1, 9, short(2)), 0}, step{s, publish(1, 9), 130})
	p = open(t, api.V5, prs{{Id: 34, N: 2}}, limits)
	more(t, p, step{s, unnamed(publish(1, 9, short(2))), 130})
	p = open(t, api.V5, nil, limits)
	more(t, p, step{s, publish(1, 9, short(1)), 148})
	// QoS 0, where nothing more is taken; and no QoS but that.
	p = open(t, api.V5, nil, prs{{Id: 36}})
	more(t, p, step{c, publish(0, 0), 0}, step{c, publish(1, 1), 155})
}

// P14.1: as many messages at once as are taken, and one more: those that wait for nothing any more, and what isn't a message, don't count.
func TestP14_1Receive(t *testing.T) {
	for side := range 2 {
		for _, most := range []uint16{1, 2, 3, 300} {
			var both [2]prs
			both[1-side] = prs{{Id: 33, N: uint32(most)}}
			lead := open(t, api.V5, both[0], both[1])
			if side == c {
				more(t, lead, step{c, filters(api.Subscribe, 60000, "a"), 0}, step{c, filters(api.Unsubscribe, 60001, "a"), 0})
			}
			for id := uint16(1); id <= most; id++ {
				more(t, lead, step{side, publish(uint8(1+id%2), id), 0})
			}
			more(t, lead, step{side, publish(0, 0), 0}, step{1 - side, publish(1, 1), 0}, step{1 - side, publish(1, 2), 0})
			// The first one is of QoS 2: it counts till its Pubcomp.
			for n, next := range []step{{1 - side, answer(api.Pubrec, 1), 0}, {side, answer(api.Pubrel, 1), 0}, {1 - side, answer(api.Pubcomp, 1), 0}} {
				more(t, lead, next)
				if got := len(lead.g.Ids(side)); side == s && (n == 2) != (got == int(most)-1) {
					t.Errorf("%d in use behind step %d", got, n)
				}
			}
			more(t, lead, step{side, publish(2, 30000), 0}, step{1 - side, pack{Kind: api.Pubrec, Id: 30000, Code: 128}, 0}, step{side, publish(1, 30001), 0}, step{1 - side, answer(api.Puback, 30001), 0}, step{side, publish(2, 30002), 0}, step{side, publish(1, 30003), 147})
		}
		for stage := range 4 {
			var both [2]prs
			both[1-side] = prs{{Id: 33, N: 1}}
			l := []step{{1 - side, answer(api.Pubrec, 1), 0}, {side, answer(api.Pubrel, 1), 0}, {1 - side, answer(api.Pubcomp, 1), 0}}[:stage]
			code := uint8(147)
			if stage == 3 {
				code = 0
			}
			p := open(t, api.V5, both[0], both[1])
			more(t, p, append(append([]step{{side, publish(2, 1), 0}}, l...), step{side, publish(1, 2), code})...)
		}
	}
}

// P14.1: a Subscribe: each of what refuses it, and that in order, filter by filter.
func TestP14_1Subscribe(t *testing.T) {
	numbered := func(p pack) pack { p.Props = prs{{Id: 11, N: 5}}; return p }
	sub := func(texts ...string) pack { return filters(api.Subscribe, 1, texts...) }
	none, noWild, noShared, noNumber := prs{{Id: 40}, {Id: 41}, {Id: 42}}, prs{{Id: 40}}, prs{{Id: 42}}, prs{{Id: 41}}
	for _, row := range []struct {
		limits prs
		p      pack
		code   uint8
	}{
		{nil, numbered(sub("$share/g/#", "+")), 0},
		{prs{{Id: 40, N: 1}, {Id: 41, N: 1}, {Id: 42, N: 1}}, numbered(sub("$share/g/#", "+")), 0},
		{none, sub("a", "$share", "$share-/g"), 0},
		{none, numbered(sub("a")), 161}, {none, numbered(sub("+")), 161}, {none, numbered(sub("$share/g/a")), 161}, {none, sub("+"), 162}, {none, sub("a/#"), 162}, {none, sub("$share/g/a"), 158},
		{none, sub("$share/g/+"), 162}, {none, sub("a", "$share/g/a", "+"), 158}, {none, sub("a", "+", "$share/g/a"), 162},
		{noWild, sub("$share/g/a"), 0}, {noWild, sub("$share/g/#"), 162}, {noWild, numbered(sub("a")), 0}, {noWild, sub("a", "b", "c/+/d"), 162},
		{noShared, sub("+", "$share/g/a"), 158}, {noShared, sub("$share/g/#"), 158}, {noShared, sub("#"), 0},
		{noNumber, sub("$share/g/#"), 0}, {noNumber, numbered(sub("a")), 161},
	} {
		p := open(t, api.V5, nil, row.limits)
		more(t, p, step{c, row.p, row.code})
		// Where the number is in use, all else is told ahead of that.
		p = open(t, api.V5, nil, row.limits)
		code := row.code
		if code == 0 {
			code = 130
		}
		more(t, p, step{c, publish(1, 1), 0}, step{c, row.p, code})
	}
	p := open(t, api.V5, nil, none)
	more(t, p, step{c, filters(api.Unsubscribe, 1, "+", "$share/g/a"), 0}, step{c, filters(api.Unsubscribe, 1, "b"), 130})
}

// P14.1: aliases stand of each side by itself, and are told; what goes on is as it was sent.
func TestP14_1Aliases(t *testing.T) {
	short := func(n uint32, topic string) pack {
		return pack{Kind: api.Publish, Topic: topic, Props: prs{{Id: 35, N: n}}}
	}
	for side := range 2 {
		p := open(t, api.V5, prs{{Id: 34, N: 65535}}, prs{{Id: 34, N: 65535}})
		more(t, p, step{side, short(7, "a"), 0}, step{side, short(65535, "b/c"), 0}, step{side, short(7, ""), 0}, step{side, short(1, "d"), 0}, step{side, short(7, "e"), 0}, step{side, short(65535, ""), 0}, step{1 - side, short(2, "f"), 0})
		if got, want := p.g.Aliases(side), (alias.Table{{Alias: 1, Topic: "d"}, {Alias: 7, Topic: "e"}, {Alias: 65535, Topic: "b/c"}}); !slices.Equal(got, want) {
			t.Errorf("%v, want %v", got, want)
		}
		if got, want := p.g.Aliases(1-side), (alias.Table{{Alias: 2, Topic: "f"}}); !slices.Equal(got, want) {
			t.Errorf("%v, want %v", got, want)
		}
		more(t, p, step{1 - side, short(7, ""), 130})
	}
	// What is refused gives no alias, and no number.
	p := open(t, api.V5, nil, prs{{Id: 33, N: 1}, {Id: 34, N: 5}})
	refused := short(5, "z")
	refused.QoS, refused.Id = 1, 2
	more(t, p, step{c, publish(1, 1), 0}, step{c, short(5, "a"), 0}, step{c, refused, 147})
	if !slices.Equal(p.g.Aliases(c), alias.Table{{Alias: 5, Topic: "a"}}) || !slices.Equal(p.g.Ids(c), ids.Table{{Id: 1, State: 1}}) {
		t.Errorf("%v, %v", p.g.Aliases(c), p.g.Ids(c))
	}
	p = open(t, api.V5, nil, prs{{Id: 34, N: 5}})
	refused.Id = 1
	more(t, p, step{c, publish(1, 1), 0}, step{c, refused, 130})
	if len(p.g.Aliases(c)) != 0 || len(p.g.Ids(c)) != 1 {
		t.Errorf("%v, %v", p.g.Aliases(c), p.g.Ids(c))
	}
}

// P14.1: a Disconnect goes on, and ends all; how long what is known is kept may be said by a client alone, and not where that was nothing.
func TestP14_1Disconnect(t *testing.T) {
	lasts := func(n uint32) prop.Prop { return prop.Prop{Id: 17, N: n} }
	for _, row := range []struct {
		side     int
		ask, bye prs
		code     uint8
	}{
		{c, nil, nil, 0}, {c, nil, prs{lasts(0)}, 0}, {c, nil, prs{lasts(1)}, 130}, {c, prs{lasts(0)}, prs{lasts(1)}, 130}, {c, prs{lasts(0)}, prs{lasts(0)}, 0},
		{c, prs{lasts(1)}, prs{lasts(0)}, 0}, {c, prs{lasts(1)}, prs{lasts(1)}, 0}, {c, prs{lasts(1)}, prs{lasts(math.MaxUint32)}, 0}, {c, prs{lasts(1 << 31)}, prs{lasts(7)}, 0}, {c, prs{lasts(1)}, nil, 0},
		{c, prs{lasts(256)}, prs{lasts(65536)}, 0}, {c, nil, prs{lasts(1 << 24)}, 130}, {c, nil, prs{{Id: 31, A: "r"}}, 0},
		{s, nil, nil, 0}, {s, prs{lasts(1)}, prs{lasts(0)}, 130}, {s, prs{lasts(1)}, prs{lasts(1)}, 130}, {s, nil, prs{lasts(0)}, 130}, {s, nil, prs{{Id: 28, A: "o"}, {Id: 31, A: "r"}}, 0},
	} {
		p := open(t, api.V5, row.ask, nil)
		more(t, p, step{row.side, bye(row.bye...), row.code})
		phase(t, p, guard.Over)
		if row.side == c {
			p = talk(t, api.V5, step{c, connect(row.ask...), 0}, step{c, bye(row.bye...), row.code})
			phase(t, p, guard.Over)
			p = talk(t, api.V5, step{c, connect(append(slices.Clone(row.ask), prop.Prop{Id: 21})...), 0}, step{c, bye(row.bye...), row.code})
			phase(t, p, guard.Over)
		}
	}
	// A Connack's own 17 says nothing of that.
	p := open(t, api.V5, nil, prs{lasts(5)})
	more(t, p, step{c, bye(lasts(1)), 130})
	p = open(t, api.V4, nil, nil)
	more(t, p, step{c, bye(), 0})
	p = open(t, api.V4, nil, nil)
	more(t, p, step{s, bye(), 130})
	other := bye()
	other.Code = 4
	p = open(t, api.V5, nil, nil)
	more(t, p, step{c, other, 0})
}

// P14.1: whose turn it is to prove: ahead of the Connack, and again behind it.
func TestP14_1Auth(t *testing.T) {
	m := prop.Prop{Id: 21, A: "m"}
	ask := []step{{c, connect(m), 0}}
	asked := append(slices.Clone(ask), step{s, auth(24, "m"), 0})
	told := append(slices.Clone(asked), step{c, auth(24, "m"), 0})
	opened := append(slices.Clone(told), step{s, connack(m), 0})
	again := append(slices.Clone(opened), step{c, auth(25, "m"), 0})
	againAsked := append(slices.Clone(again), step{s, auth(24, "m"), 0})
	againTold := append(slices.Clone(againAsked), step{c, auth(24, "m"), 0})
	anew := append(slices.Clone(againTold), step{s, auth(0, "m"), 0})
	for _, row := range []struct {
		name string
		lead []step
		goes [2][]uint8
	}{
		{"ask", ask, [2][]uint8{{}, {24}}},
		{"asked", asked, [2][]uint8{{24}, {}}},
		{"told", told, [2][]uint8{{}, {24}}},
		{"opened", opened, [2][]uint8{{25}, {}}},
		{"again", again, [2][]uint8{{}, {0, 24}}},
		{"again asked", againAsked, [2][]uint8{{24}, {}}},
		{"again told", againTold, [2][]uint8{{}, {0, 24}}},
		{"anew", anew, [2][]uint8{{25}, {}}},
	} {
		for side := range 2 {
			for _, code := range []uint8{0, 24, 25} {
				want := uint8(130)
				if slices.Contains(row.goes[side], code) {
					want = 0
				}
				talk(t, api.V5, append(slices.Clone(row.lead), step{side, auth(code, "m"), want})...)
				for _, method := range []string{"", "M", "mm", "n"} {
					talk(t, api.V5, append(slices.Clone(row.lead), step{side, auth(code, method), 130})...)
				}
			}
		}
	}
	for side := range 2 {
		for _, code := range []uint8{0, 24, 25} {
			for _, method := range []string{"", "m"} {
				p := open(t, api.V5, nil, nil)
				more(t, p, step{side, auth(code, method), 130})
				talk(t, api.V5, step{c, connect(), 0}, step{side, auth(code, method), 130})
			}
		}
	}
	// All else goes on while it is proved again.
	p := talk(t, api.V5, againAsked...)
	more(t, p, step{c, publish(1, 1), 0}, step{s, publish(1, 1), 0}, step{s, answer(api.Puback, 1), 0}, step{c, pack{Kind: api.Pingreq}, 0}, step{s, pack{Kind: api.Pingresp}, 0}, step{c, auth(24, "m"), 0}, step{s, bye(), 0})
}

// P14.1: what a side's bytes are refused for when they are no packet that may be; packets ahead of it go on.
func TestP14_1Wrong(t *testing.T) {
	for _, version := range versions {
		ask, ack := laid(t, version, connect()), laid(t, version, connack())
		for _, row := range []struct {
			b    string
			code uint8
		}{
			{"\x00\x00", 129}, {"\xC0\x80\x00", 129}, {"\xFF\xFF\xFF\xFF\xFF", 129}, {"\xC1\x00", 129}, {"\x40\x03\x00\x07\x01", 130}, {"\x40\x02\x00\x00", 130},
			{"\x40\x01\x00", 129}, {"\x30\x7F", 149}, {"\x30\xFF\xFF\xFF\x7F", 149}, {"\x30\x63", 149}, {"\x20\x63", 149},
		} {
			code := row.code
			if version == api.V4 && row.b[:2] == "\x40\x03" {
				code = 129
			}
			for side := range 2 {
				p := paired(t, version, 100)
				p.feed(c, ask)
				p.feed(s, ack)
				ahead := [2]string{"\xC0\x00", "\xD0\x00"}[side]
				got := p.feed(side, ahead+ahead+row.b)
				on := deed{Kind: guard.Forward, Side: side, Bytes: ahead}
				if want := []deed{on, on, {Kind: guard.Close, Side: side, Code: code}}; !slices.Equal(got, want) || p.g.Phase() != guard.Over {
					t.Errorf("version %d, side %d, %s: %s, want %s", version, side, told(row.b), told(got), told(want))
				}
				// A packet that is refused ahead of it is what counts.
				p = paired(t, version, 100)
				p.feed(c, ask)
				p.feed(s, ack)
				got = p.feed(side, ahead+ask+row.b)
				if want := []deed{on, {Kind: guard.Close, Side: side, Code: 130}}; !slices.Equal(got, want) {
					t.Errorf("version %d, side %d, %s: %s, want %s", version, side, told(row.b), told(got), told(want))
				}
			}
		}
		// The client's first packet is told by its fixed header; the server's when it is whole.
		for _, row := range []struct {
			side int
			l    []string
			code uint8
		}{
			{c, []string{"\x30", "\x10"}, 130}, {c, []string{"\x30", "\x63"}, 149}, {c, []string{"\xC0\x00"}, 130}, {s, []string{"\x30\x05\x00\x01", "abc"}, 0}, {s, []string{"\x30", "\x63"}, 149}, {s, []string{"\xD0", "\x00"}, 130}, {s, []string{"\x20\x02\x00", "\x00"}, 130}, {s, []string{ask[:3], ask[3:]}, 130},
			{s, []string{"\x00", "\x00"}, 129}, {c, []string{"\x00\x00"}, 130}, {c, []string{"\x10\x00"}, 129},
		} {
			p := paired(t, version, 100)
			for i, b := range row.l {
				got := p.feed(row.side, b)
				if i < len(row.l)-1 && len(got) != 0 || i == len(row.l)-1 && row.code != 0 && (len(got) != 1 || got[0] != (deed{Kind: guard.Close, Side: row.side, Code: row.code})) {
					if !(version == api.V5 && strings.HasPrefix(row.l[0], "\x20\x02")) {
						t.Errorf("version %d, side %d, %s: %s", version, row.side, told(row.l), told(got))
					}
				}
			}
		}
	}
}

// P14.1: packets of most bytes, and of one more.
func TestP14_1Most(t *testing.T) {
	for _, version := range versions {
		ask := laid(t, version, connect())
		for most := len(ask) - 1; most <= len(ask)+2; most++ {
			p := paired(t, version, most)
			got := p.feed(c, ask)
			if fits := most >= len(ask); len(got) != 1 || (got[0].Code == 0) != fits || !fits && got[0].Code != 149 {
				t.Errorf("version %d, most %d: %s", version, most, told(got))
			}
		}
		p := paired(t, version, 2)
		if got := p.feed(s, "\xD0\x00"); len(got) != 1 || got[0].Code != 130 {
			t.Errorf("%s", told(got))
		}
	}
}
