package guard_test

import (
	"slices"
	"testing"

	"pouch/api"
	"pouch/packet"
	"pouch/prop"
)

// letters are packets, with their sides, of which talks are made.
func letters(t *testing.T, version int, l ...step) []piece {
	t.Helper()
	var out []piece
	for _, one := range l {
		out = append(out, piece{one.side, laid(t, version, one.p)})
	}
	return out
}

// explore does all that the letters may bring about: from each state that the model comes to, each letter is tried. It answers how many states there are.
func explore(t *testing.T, version int, l []piece) int {
	t.Helper()
	seen := map[string]bool{}
	paths := [][]piece{nil}
	for len(paths) > 0 {
		path := paths[0]
		paths = paths[1:]
		for _, letter := range l {
			p := paired(t, version, 200)
			for _, one := range path {
				p.feed(one.side, one.b)
			}
			p.feed(letter.side, letter.b)
			if key := p.m.key(); !seen[key] && p.m.phase != "over" {
				seen[key] = true
				paths = append(paths, append(slices.Clone(path), letter))
			}
		}
	}
	return len(seen)
}

// explored holds how many states there are, so that it is known that talks came so far.
func explored(t *testing.T, version, states int, l ...step) {
	t.Helper()
	if n := explore(t, version, letters(t, version, l...)); n != states {
		t.Errorf("version %d: %d states, want %d", version, n, states)
	}
}

// replies answers all that may answer a side's number, and release it.
func replies(side int, id uint16) []step {
	other := 1 - side
	return []step{{other, answer(api.Puback, id), 0}, {other, answer(api.Pubrec, id), 0}, {side, answer(api.Pubrel, id), 0}, {other, answer(api.Pubcomp, id), 0}}
}

// P14.1: numbers of both sides, in each state that they come to, and each answer to them.
func TestP14_1AllNumbers(t *testing.T) {
	for _, row := range []struct{ version, receive int }{{4, 65535}, {5, 65535}, {5, 1}, {5, 2}} {
		lead := []step{{c, connect(), 0}, {s, connack(), 0}}
		if row.version == api.V5 {
			l := prop.Prop{Id: 33, N: uint32(row.receive)}
			lead = []step{{c, connect(l), 0}, {s, connack(l), 0}, {s, pack{Kind: api.Pubrec, Id: 1, Code: 128}, 0}}
		}
		all := append(lead, step{s, publish(1, 1), 0}, step{s, publish(2, 1), 0})
		all = append(all, replies(s, 1)...)
		for id := uint16(1); id <= 2; id++ {
			all = append(all, step{c, publish(1, id), 0}, step{c, publish(2, id), 0})
			all = append(all, replies(c, id)...)
		}
		// Connected, and 3 states of each of the client's two; Open, and 5 states of all three.
		explored(t, row.version, 9+125, all...)
	}
}

// P14.1: filters of one number, and of two, and what answers them.
func TestP14_1AllFilters(t *testing.T) {
	for _, version := range versions {
		all := []step{{c, connect(), 0}, {s, connack(), 0}, {c, publish(1, 1), 0}, {s, answer(api.Puback, 1), 0}, {s, answer(api.Pubrec, 1), 0}, {s, publish(1, 1), 0}, {c, answer(api.Puback, 1), 0}}
		for id := uint16(1); id <= 2; id++ {
			all = append(all, step{c, filters(api.Subscribe, id, "a"), 0}, step{c, filters(api.Subscribe, id, "a", "#"), 0}, step{s, coded(api.Suback, id, 0), 0}, step{s, coded(api.Suback, id, 0, 128), 0})
			all = append(all, step{c, filters(api.Unsubscribe, id, "a"), 0}, step{c, filters(api.Unsubscribe, id, "a", "b"), 0})
			if version == api.V4 {
				all = append(all, step{s, answer(api.Unsuback, id), 0})
			} else {
				all = append(all, step{s, coded(api.Unsuback, id, 0), 0}, step{s, coded(api.Unsuback, id, 17, 0), 0})
			}
		}
		// The states of filters, and that of the message; Open that of the server's message, too. (In version 4 Unsubscribes of one filter and of two wait for the same.)
		each := map[int]int{api.V4: 4, api.V5: 5}[version]
		explored(t, version, 3*(each+1)*each, all...)
	}
}

// P14.1: aliases of both sides, and what each of them takes.
func TestP14_1AllAliases(t *testing.T) {
	short := func(side int, n uint32, topic string) step {
		return step{side, pack{Kind: api.Publish, Topic: topic, Props: prs{{Id: 35, N: n}}}, 0}
	}
	first := prop.Prop{Id: 34, N: 1}
	second := prop.Prop{Id: 34, N: 2}
	all := []step{{c, connect(), 0}, {c, connect(first), 0}, {c, connect(second), 0}, {s, connack(), 0}, {s, connack(first), 0}, {s, connack(second), 0}}
	for side := range 2 {
		for n := uint32(1); n <= 3; n++ {
			all = append(all, short(side, n, ""), short(side, n, "a"))
		}
		all = append(all, short(side, 1, "b"))
	}
	// Connected, and what the client takes; Open, and each side's aliases, by what the other one takes: none, one of two topics, and another one of one.
	explored(t, api.V5, 3+(1+3+6)*(1+3+6), all...)
}

// P14.1: who proves who it is, when, and by which method.
func TestP14_1AllAuths(t *testing.T) {
	m, n := prop.Prop{Id: 21, A: "m"}, prop.Prop{Id: 21}
	all := []step{
		{c, connect(), 0}, {c, connect(m), 0}, {c, connect(n), 0}, {s, connack(), 0}, {s, connack(m), 0}, {s, connack(n), 0}, {s, pack{Kind: api.Connack, Code: 135, Props: prs{m}}, 0}, {s, pack{Kind: api.Connack, Code: 135}, 0},
		{c, bye(), 0}, {s, bye(), 0}, {c, publish(1, 1), 0}, {s, publish(1, 1), 0},
	}
	for side := range 2 {
		for _, code := range []uint8{0, 24, 25} {
			all = append(all, step{side, auth(code, "m"), 0}, step{side, auth(code, ""), 0})
		}
	}
	// Without a method Connected, Open, and messages; by two methods two turns, Open three turns and messages.
	explored(t, api.V5, 2+4+2*(2+3*4), all...)
}

// P14.1: what a Connect says, with all that is held against it.
func TestP14_1AllConnects(t *testing.T) {
	lasts := func(n uint32) prop.Prop { return prop.Prop{Id: 17, N: n} }
	for _, version := range versions {
		all := []step{
			{c, connect(), 0}, {c, pack{Kind: api.Connect, Client: "a"}, 0}, {c, pack{Kind: api.Connect, Client: "a", Clean: true}, 0},
			{s, connack(), 0}, {s, pack{Kind: api.Connack, Present: true}, 0}, {c, bye(), 0}, {s, pack{Kind: api.Pingresp}, 0}, {c, pack{Kind: api.Pingreq}, 0},
		}
		if version == api.V5 {
			all = append(all, step{c, pack{Kind: api.Connect}, 0}, step{c, connect(lasts(0)), 0}, step{c, connect(lasts(5)), 0}, step{c, pack{Kind: api.Connect, Props: prs{lasts(5)}}, 0},
				step{s, connack(prop.Prop{Id: 18, A: "g"}), 0}, step{s, pack{Kind: api.Connack, Present: true, Props: prs{{Id: 18}}}, 0}, step{s, connack(lasts(5)), 0}, step{s, pack{Kind: api.Connack, Code: 128}, 0}, step{s, bye(), 0}, step{s, bye(lasts(0)), 0}, step{s, bye(lasts(5)), 0}, step{c, bye(lasts(0)), 0}, step{c, bye(lasts(5)), 0})
		} else {
			all = append(all, step{s, pack{Kind: api.Connack, Code: 5}, 0}, step{s, bye(), 0})
		}
		// Each Connect that says something else, Connected and Open.
		differ := map[int]int{api.V4: 3, api.V5: 6}[version]
		explored(t, version, 2*differ, all...)
	}
}

// P14.1: each set of what a Connack's properties allow and forbid, and packets that go by it.
func TestP14_1AllLimits(t *testing.T) {
	sets := []prs{nil}
	each := prs{{Id: 33, N: 1}, {Id: 34, N: 1}, {Id: 36, N: 1}, {Id: 37}, {Id: 39, N: 22}, {Id: 40}, {Id: 41}, {Id: 42}}
	for _, q := range each {
		for _, l := range slices.Clone(sets) {
			sets = append(sets, append(slices.Clone(l), q))
		}
	}
	var tries []pack
	for i := range 48 {
		p := publish(uint8(i%3), uint16(min(i%3, 1)*3))
		p.Retain = i/3%2 == 1
		if i/6%2 == 1 {
			p.Props = prs{{Id: 35, N: uint32(1 + i/12%2)}}
		}
		if i/24 == 1 {
			p.Load = "0123456"
		}
		tries = append(tries, p)
	}
	for i := range 32 {
		p := pack{Kind: api.Subscribe, Id: uint16(1 + i/16)}
		if i%2 == 1 {
			p.Props = prs{{Id: 11, N: 7}}
		}
		for j, text := range []string{"+", "$share/g/a", "$share/g/#"} {
			if i/2%8>>j%2 == 1 {
				p.Filters = append(p.Filters, packet.Filter{Text: text})
			}
		}
		p.Filters = append(p.Filters, packet.Filter{Text: "b"})
		tries = append(tries, p)
	}
	for i, l := range sets {
		lead := []piece{{c, laid(t, api.V5, connect())}, {s, laid(t, api.V5, connack(l...))}, {c, laid(t, api.V5, publish(1, 1))}}
		for _, try := range tries {
			p := paired(t, api.V5, 200)
			for _, one := range lead[:2+i/7%2] {
				p.feed(one.side, one.b)
			}
			p.feed(c, laid(t, api.V5, try))
		}
	}
	if len(sets) != 256 {
		t.Error(len(sets))
	}
}
