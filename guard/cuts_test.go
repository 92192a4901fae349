package guard_test

import (
	"maps"

	"math/rand"

	"slices"
	"strings"
	"testing"

	"pouch/api"
	"pouch/decode"
	"pouch/guard"
	"pouch/prop"
)

// pool answers packets of both sides of which random talks are made: those that begin first.
func pool(t *testing.T, version int) []piece {
	t.Helper()
	var l []step
	if version == api.V4 {
		l = []step{{c, connect(), 0}, {c, pack{Kind: api.Connect, Client: "a"}, 0}, {s, connack(), 0}, {s, pack{Kind: api.Connack, Present: true}, 0}, {s, pack{Kind: api.Connack, Code: 3}, 0}}
	} else {
		m, takes := prop.Prop{Id: 21, A: "m"}, prs{{Id: 33, N: 2}, {Id: 34, N: 2}, {Id: 39, N: 40}}
		l = []step{{c, connect(), 0}, {c, connect(m), 0}, {c, connect(append(prs{{Id: 17, N: 9}, m}, takes...)...), 0}, {c, connect(takes...), 0}}
		l = append(l, step{s, connack(), 0}, step{s, connack(m), 0}, step{s, connack(takes...), 0}, step{s, connack(prop.Prop{Id: 36}, prop.Prop{Id: 40}), 0}, step{s, connack(prop.Prop{Id: 37}, prop.Prop{Id: 41}), 0}, step{s, connack(prop.Prop{Id: 42}), 0}, step{s, pack{Kind: api.Connack, Code: 128}, 0})
		l = append(l, step{s, auth(24, "m"), 0}, step{c, auth(24, "m"), 0}, step{c, auth(25, "m"), 0}, step{s, auth(0, "m"), 0}, step{s, bye(), 0}, step{c, bye(prop.Prop{Id: 17, N: 3}), 0})
	}
	for side := range 2 {
		for id := uint16(1); id <= 3; id++ {
			for _, kind := range []int{api.Puback, api.Pubrec, api.Pubrel, api.Pubcomp} {
				l = append(l, step{side, answer(kind, id), 0})
			}
			for qos := range uint8(2) {
				kept := publish(qos+1, id)
				kept.Retain, kept.Dup, kept.Load = id == 2, id == 3, strings.Repeat("x", int(id)*10)
				l = append(l, step{side, kept, 0})
			}
			if version == api.V5 {
				short := pack{Kind: api.Publish, Topic: []string{"", "a", "bc"}[id-1], Props: prs{{Id: 35, N: uint32(1 + side + int(id)%2)}}}
				l = append(l, step{side, short, 0})
			}
		}
	}
	for id := uint16(1); id <= 3; id++ {
		unsuback := coded(api.Unsuback, id, 0, 17)
		if version == api.V4 {
			unsuback.Codes = nil
		}
		l = append(l, step{c, filters(api.Subscribe, id, "a", "+", "$share/g/b"), 0})
		l = append(l, step{c, filters(api.Unsubscribe, id, "a", "b"), 0}, step{s, unsuback, 0}, step{s, coded(api.Suback, id, 0, 1, 2), 0})
	}
	if version == api.V5 {
		numbered := filters(api.Subscribe, 2, "b")
		numbered.Props = prs{{Id: 11, N: 5}}
		l = append(l, step{c, numbered, 0}, step{c, filters(api.Subscribe, 3, "$share/g/b"), 0})
	}
	l = append(l, step{c, pack{Kind: api.Pingreq}, 0}, step{s, pack{Kind: api.Pingresp}, 0}, step{c, bye(), 0})
	return letters(t, version, l...)
}

// copied answers a model that stands as m does.
func copied(m *model) *model {
	n := *m
	for side := range 2 {
		n.ids[side], n.aliases[side] = maps.Clone(m.ids[side]), maps.Clone(m.aliases[side])
	}
	return &n
}

// draw answers a talk of some packets, of which mostly the next one goes on, and of what comes behind its end.
func draw(r *rand.Rand, version int, all []piece) []piece {
	m := newModel(version, 268435460)
	var l []piece
	for range 2 + r.Intn(60) {
		one := pick(r, m, all, func(over bool, code uint8) bool { return !over || r.Intn(1500) == 0 })
		if r.Intn(150) == 0 {
			one.b = string([]byte{byte(r.Intn(256)), byte(r.Intn(5)), 0, byte(r.Intn(3))})
		}
		m.feed(one.side, one.b)
		l = append(l, one)
		if m.phase == "over" && r.Intn(3) == 0 {
			return l
		}
	}
	return append(l, pick(r, m, all, func(over bool, code uint8) bool { return code > 130 }))
}

// pick answers one of which what would be done is as it should be, if one is found.
func pick(r *rand.Rand, m *model, all []piece, should func(over bool, code uint8) bool) piece {
	one := all[r.Intn(len(all))]
	for range 300 {
		try := copied(m)
		code := uint8(0)
		for _, act := range try.feed(one.side, one.b) {
			code = act.Code
		}
		if should(try.phase == "over", code) {
			return one
		}
		one = all[r.Intn(len(all))]
	}
	return one
}

// smear lets the ends of some packets, of a hundred so many, come later, behind pieces of the other side.
func smear(r *rand.Rand, l []piece, often int) []piece {
	var waits [2]string
	var out []piece
	for _, one := range l {
		b := waits[one.side] + one.b
		n := len(b)
		if r.Intn(100) < often {
			n = r.Intn(n + 1)
		}
		waits[one.side] = b[n:]
		out = append(out, piece{one.side, b[:n]})
	}
	return append(out, piece{0, waits[0]}, piece{1, waits[1]})
}

// joined puts together pieces of one side, where none of the other one is between.
func joined(l []piece) []piece {
	var out []piece
	for _, one := range l {
		if n := len(out); n > 0 && out[n-1].side == one.side {
			out[n-1].b += one.b
			continue
		}
		out = append(out, one)
	}
	return out
}

// cut cuts pieces again: byte by byte, or anywhere, also so that nothing is between.
func cut(r *rand.Rand, l []piece, whole bool) []piece {
	var out []piece
	for _, one := range joined(l) {
		b := one.b
		for len(b) > 0 {
			n := 1
			if whole {
				n = min(r.Intn(40), len(b))
			}
			out = append(out, piece{one.side, b[:n]})
			b = b[n:]
		}
	}
	return out
}

// done feeds all pieces to a new Guard, and answers all that it does, and the Guard.
func done(t *testing.T, version, most int, l []piece) ([]deed, *guard.Guard) {
	t.Helper()
	g := made(t, version, most)
	var all []deed
	for _, one := range l {
		over := g.Phase() == guard.Over
		acts := g.Feed(one.side, []byte(one.b))
		if over && len(acts) > 0 {
			t.Fatalf("%s: does %s, though it is Over", told(l), told(acts))
		}
		all = append(all, acts...)
	}
	return all, g
}

// same holds what is done with other cuts, and how it stands, against what was done.
func same(t *testing.T, p *pair, most int, want []deed, l []piece) {
	t.Helper()
	got, g := done(t, p.m.version, most, l)
	if !slices.Equal(got, want) {
		t.Fatalf("version %d, %s: does %s, but in pieces %s: %s", p.m.version, told(p.l), told(want), told(l), told(got))
	}
	other := pair{t: t, g: g, m: p.m, l: l}
	other.stands()
}

// wholes holds of what went on that it is what was sent, from the first byte on, in whole packets, and that nothing is behind its end.
func wholes(t *testing.T, version int, l []piece, acts []deed) {
	t.Helper()
	var sent, went [2]string
	for _, one := range l {
		sent[one.side] += one.b
	}
	for i, act := range acts {
		switch {
		case act.Kind == guard.Close && i == len(acts)-1 && act.Bytes == "" && act.Code >= 128 && (act.Side == c || act.Side == s):
		case act.Kind == guard.Forward && act.Code == 0:
			p, err := decode.Decode(version, []byte(act.Bytes))
			if err != api.OK || p.Kind == api.Disconnect && i != len(acts)-1 {
				t.Fatalf("version %d, %s: %s", version, told(l), told(acts))
			}
			went[act.Side] += act.Bytes
		default:
			t.Fatalf("version %d, %s: %s", version, told(l), told(acts))
		}
	}
	for side := range 2 {
		if !strings.HasPrefix(sent[side], went[side]) {
			t.Fatalf("version %d, %s: of side %d %q went on", version, told(l), side, went[side])
		}
	}
}

// P14.1 to P14.4: random talks, in many cuts.
func TestP14_2Cuts(t *testing.T) {
	r := rand.New(rand.NewSource(14))
	for _, version := range versions {
		all := pool(t, version)
		ends := map[uint8]int{}
		long := 0
		for range 2500 {
			most := []int{268435460, 268435460, 268435460, 268435460, 100, 30}[r.Intn(6)]
			l := smear(r, draw(r, version, all), []int{0, 5, 30}[r.Intn(3)])
			p := paired(t, version, most)
			var acts []deed
			for _, one := range l {
				acts = append(acts, p.feed(one.side, one.b)...)
			}
			wholes(t, version, l, acts)
			same(t, p, most, acts, joined(l))
			same(t, p, most, acts, cut(r, l, false))
			same(t, p, most, acts, cut(r, l, true))
			if n := len(acts); n > 0 {
				ends[acts[n-1].Code]++
			}
			if len(acts) > 20 {
				long++
			}
		}
		// The talks come to something: they are long, and end by each thing that may end them.
		want := []uint8{0, 129, 130, 149}
		if version == api.V5 {
			want = append(want, 147, 148, 154, 155, 158, 161, 162)
		}
		for _, code := range want {
			if ends[code] == 0 {
				t.Errorf("version %d: no talk ends by %d: %v", version, code, ends)
			}
		}
		if long < 500 {
			t.Errorf("version %d: just %d long talks", version, long)
		}
	}
}
