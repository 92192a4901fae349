package limits_test

import (
	"math"
	"math/rand"
	"slices"
	"strings"
	"testing"

	"pouch/api"
	"pouch/limits"
	"pouch/packet"
	"pouch/prop"
)

type (
	pack = packet.Packet
	prs  = []prop.Prop
)

// usual is the document's Default.
var usual = limits.Limits{Receive: 65535, Alias: 0, Size: 268435460, QoS: 2, Retain: true, Wild: true, Number: true, Shared: true}

// of asks what a packet says, and that it stays as it was.
func of(t *testing.T, version int, p pack, want limits.Limits) {
	t.Helper()
	before := slices.Clone(p.Props)
	if got := limits.Of(version, p); got != want {
		t.Errorf("Of(%d, kind %d, %.60v): %v, want %v", version, p.Kind, p.Props, got, want)
	}
	if !slices.Equal(p.Props, before) {
		t.Errorf("Of changes %v to %v", before, p.Props)
	}
}

// with answers the Default, and what is done with it.
func with(do func(*limits.Limits)) limits.Limits {
	l := usual
	do(&l)
	return l
}

// read is the document's text: what the properties of a packet that is Right say.
func read(kind int, l prs) limits.Limits {
	got := usual
	for _, p := range l {
		switch {
		case p.Id == 33:
			got.Receive = uint16(p.N)
		case p.Id == 34:
			got.Alias = uint16(p.N)
		case p.Id == 39:
			got.Size = int(p.N)
		case kind == api.Connack && p.Id == 36:
			got.QoS = uint8(p.N)
		case kind == api.Connack && p.Id == 37:
			got.Retain = p.N == 1
		case kind == api.Connack && p.Id == 40:
			got.Wild = p.N == 1
		case kind == api.Connack && p.Id == 41:
			got.Number = p.N == 1
		case kind == api.Connack && p.Id == 42:
			got.Shared = p.N == 1
		}
	}
	return got
}

// P13.1: Default, new each time; Limits compare.
func TestP13_1Default(t *testing.T) {
	l := limits.Default()
	if l != usual {
		t.Error(l)
	}
	l.Receive, l.Shared = 1, false
	if limits.Default() != usual || l == usual {
		t.Error("Default changes with what it answered")
	}
}

// P13.1: each property by itself, at its edges, of a Connack, and those that it may have of a Connect.
func TestP13_1EachProperty(t *testing.T) {
	for _, c := range []struct {
		p    prop.Prop
		both bool
		do   func(*limits.Limits)
	}{
		{prop.Prop{Id: 33, N: 1}, true, func(l *limits.Limits) { l.Receive = 1 }},
		{prop.Prop{Id: 33, N: 256}, true, func(l *limits.Limits) { l.Receive = 256 }},
		{prop.Prop{Id: 33, N: 65535}, true, func(l *limits.Limits) {}},
		{prop.Prop{Id: 34}, true, func(l *limits.Limits) {}},
		{prop.Prop{Id: 34, N: 1}, true, func(l *limits.Limits) { l.Alias = 1 }},
		{prop.Prop{Id: 34, N: 65535}, true, func(l *limits.Limits) { l.Alias = 65535 }},
		{prop.Prop{Id: 39, N: 1}, true, func(l *limits.Limits) { l.Size = 1 }},
		{prop.Prop{Id: 39, N: 65536}, true, func(l *limits.Limits) { l.Size = 65536 }},
		{prop.Prop{Id: 39, N: 268435460}, true, func(l *limits.Limits) {}},
		{prop.Prop{Id: 39, N: 268435461}, true, func(l *limits.Limits) { l.Size = 268435461 }},
		{prop.Prop{Id: 39, N: 1 << 31}, true, func(l *limits.Limits) { l.Size = 1 << 31 }},
		{prop.Prop{Id: 39, N: math.MaxUint32}, true, func(l *limits.Limits) { l.Size = 4294967295 }},
		{prop.Prop{Id: 36}, false, func(l *limits.Limits) { l.QoS = 0 }},
		{prop.Prop{Id: 36, N: 1}, false, func(l *limits.Limits) { l.QoS = 1 }},
		{prop.Prop{Id: 37}, false, func(l *limits.Limits) { l.Retain = false }},
		{prop.Prop{Id: 37, N: 1}, false, func(l *limits.Limits) {}},
		{prop.Prop{Id: 40}, false, func(l *limits.Limits) { l.Wild = false }},
		{prop.Prop{Id: 40, N: 1}, false, func(l *limits.Limits) {}},
		{prop.Prop{Id: 41}, false, func(l *limits.Limits) { l.Number = false }},
		{prop.Prop{Id: 41, N: 1}, false, func(l *limits.Limits) {}},
		{prop.Prop{Id: 42}, false, func(l *limits.Limits) { l.Shared = false }},
		{prop.Prop{Id: 42, N: 1}, false, func(l *limits.Limits) {}},
	} {
		want := with(c.do)
		of(t, api.V5, pack{Kind: api.Connack, Props: prs{c.p}}, want)
		of(t, api.V5, pack{Kind: api.Connack, Present: true, Props: prs{c.p}}, want)
		of(t, api.V5, pack{Kind: api.Connack, Code: 128, Props: prs{{Id: 17, N: 5}, c.p}}, want)
		if !c.both {
			// A Connect that has it may not be.
			want = usual
		}
		of(t, api.V5, pack{Kind: api.Connect, Props: prs{c.p}}, want)
		of(t, api.V5, pack{Kind: api.Connect, Clean: true, Keep: 9, Client: "a", HasWill: true, WillTopic: "w", WillProps: prs{{Id: 24, N: 7}}, HasUser: true, User: "u", Props: prs{c.p}}, want)
	}
}

// P13.1: the document's example, and packets that say nothing of it.
func TestP13_1Example(t *testing.T) {
	of(t, api.V5, pack{Kind: api.Connack, Props: prs{{Id: 33, N: 5}, {Id: 36, N: 1}}}, with(func(l *limits.Limits) { l.Receive, l.QoS = 5, 1 }))
	of(t, api.V5, pack{Kind: api.Connect}, usual)
	of(t, api.V5, pack{Kind: api.Connack}, usual)
	of(t, api.V5, pack{Kind: api.Connack, Props: prs{}}, usual)
	of(t, api.V5, pack{Kind: api.Connect, Props: prs{{Id: 17, N: 3}, {Id: 21, A: "m"}, {Id: 22, A: "33"}, {Id: 23}, {Id: 25}, {Id: 38, A: "33", B: "5"}}}, usual)
	of(t, api.V5, pack{Kind: api.Connack, Props: prs{{Id: 17, N: 3}, {Id: 18, A: "c"}, {Id: 19, N: 4}, {Id: 26, A: "r"}, {Id: 28, A: "s"}, {Id: 31, A: "t"}, {Id: 38}, {Id: 38}}}, usual)
	all := prs{{Id: 18, A: "c"}, {Id: 33, N: 2}, {Id: 34, N: 3}, {Id: 36, N: 0}, {Id: 37}, {Id: 38, A: "k", B: "v"}, {Id: 39, N: 4}, {Id: 40}, {Id: 41}, {Id: 42}}
	of(t, api.V5, pack{Kind: api.Connack, Props: all}, limits.Limits{Receive: 2, Alias: 3, Size: 4})
	of(t, api.V5, pack{Kind: api.Connect, Props: prs{{Id: 33, N: 2}, {Id: 34, N: 3}, {Id: 38, A: "k", B: "v"}, {Id: 39, N: 4}}}, with(func(l *limits.Limits) { l.Receive, l.Alias, l.Size = 2, 3, 4 }))
}

// P13.1: a will's properties are none of its Connect's.
func TestP13_1Will(t *testing.T) {
	p := pack{Kind: api.Connect, Client: "a", HasWill: true, WillQoS: 1, WillRetain: true, WillTopic: "w", WillProps: prs{{Id: 2, N: 5}, {Id: 24, N: 6}}, Props: prs{{Id: 33, N: 7}}}
	of(t, api.V5, p, with(func(l *limits.Limits) { l.Receive = 7 }))
	p.WillProps = prs{{Id: 33, N: 5}}
	of(t, api.V5, p, usual)
}

// P13.1: some and others of a Connack's, and of a Connect's, held against the document's words.
func TestP13_1AllSets(t *testing.T) {
	values := []prs{
		{{Id: 33, N: 1}, {Id: 33, N: 258}}, {{Id: 34}, {Id: 34, N: 513}}, {{Id: 36}, {Id: 36, N: 1}}, {{Id: 37}, {Id: 37, N: 1}},
		{{Id: 39, N: 2}, {Id: 39, N: 1 << 20}}, {{Id: 40}, {Id: 40, N: 1}}, {{Id: 41}, {Id: 41, N: 1}}, {{Id: 42}, {Id: 42, N: 1}},
	}
	sets := []prs{nil}
	for _, either := range values {
		for _, l := range slices.Clone(sets) {
			for _, p := range either {
				sets = append(sets, append(slices.Clone(l), p))
			}
		}
	}
	connects := 0
	for _, l := range sets {
		of(t, api.V5, pack{Kind: api.Connack, Props: l}, read(api.Connack, l))
		p := pack{Kind: api.Connect, Client: "a", Props: l}
		if packet.Right(api.V5, p) {
			connects++
			of(t, api.V5, p, read(api.Connect, l))
		} else {
			of(t, api.V5, p, usual)
		}
		of(t, api.V4, pack{Kind: api.Connack, Props: l}, usual)
	}
	if len(sets) != 6561 || connects != 27 {
		t.Error(len(sets), connects)
	}
}

// P13.1: what isn't Right says nothing.
func TestP13_1NotRight(t *testing.T) {
	five := prop.Prop{Id: 33, N: 5}
	for _, p := range []pack{
		{Kind: api.Connack, Props: prs{{Id: 36, N: 1}, five}},
		{Kind: api.Connack, Props: prs{five, five}},
		{Kind: api.Connack, Props: prs{five, {Id: 33, N: 6}}},
		{Kind: api.Connack, Props: prs{{Id: 33}}},
		{Kind: api.Connack, Props: prs{{Id: 33, N: 65536}}},
		{Kind: api.Connack, Props: prs{five, {Id: 39}}},
		{Kind: api.Connack, Props: prs{five, {Id: 36, N: 2}}},
		{Kind: api.Connack, Props: prs{five, {Id: 37, N: 2}}},
		{Kind: api.Connack, Props: prs{five, {Id: 42, N: 256}}},
		{Kind: api.Connack, Props: prs{{Id: 33, N: 5, A: "a"}}},
		{Kind: api.Connack, Props: prs{{Id: 22, A: "d"}, five}},
		{Kind: api.Connack, Props: prs{{Id: 23, N: 1}, five}},
		{Kind: api.Connack, Props: prs{{Id: 0}, five}},
		{Kind: api.Connack, Code: 1, Props: prs{five}},
		{Kind: api.Connack, Code: 128, Present: true, Props: prs{five}},
		{Kind: api.Connack, Id: 1, Props: prs{five}},
		{Kind: api.Connack, Load: "x", Props: prs{five}},
		{Kind: api.Connack, Clean: true, Props: prs{five}},
		{Kind: api.Connack, WillProps: prs{{Id: 24}}, Props: prs{five}},
		{Kind: api.Connect, Present: true, Props: prs{five}},
		{Kind: api.Connect, Client: "\xFF", Props: prs{five}},
		{Kind: api.Connect, Client: strings.Repeat("a", api.MaxText+1), Props: prs{five}},
		{Kind: api.Connect, HasWill: true, Props: prs{five}},
		{Kind: api.Connect, HasWill: true, WillTopic: "w", WillQoS: 3, Props: prs{five}},
		{Kind: api.Connect, User: "u", Props: prs{five}},
		{Kind: api.Connect, Props: prs{five, {Id: 36, N: 1}}},
		{Kind: api.Connect, Props: prs{five, {Id: 40}}},
		{Kind: api.Connect, Props: prs{{Id: 34, N: 1}, five}},
	} {
		if packet.Right(api.V5, p) {
			t.Errorf("kind %d, %v is Right", p.Kind, p.Props)
		}
		of(t, api.V5, p, usual)
	}
	many := prs{five}
	for range api.MaxProps - 1 {
		many = append(many, prop.Prop{Id: 38})
	}
	of(t, api.V5, pack{Kind: api.Connack, Props: many}, with(func(l *limits.Limits) { l.Receive = 5 }))
	of(t, api.V5, pack{Kind: api.Connack, Props: append(many, prop.Prop{Id: 38})}, usual)
}

// P13.1: version 4, and versions that are none, say nothing.
func TestP13_1Versions(t *testing.T) {
	for _, version := range []int{math.MinInt, -5, -1, 0, 1, 3, 4, 6, 256 + 5, 1<<32 + 5, math.MaxInt} {
		for _, kind := range []int{api.Connect, api.Connack} {
			of(t, version, pack{Kind: kind}, usual)
			of(t, version, pack{Kind: kind, Props: prs{{Id: 33, N: 5}}}, usual)
			of(t, version, pack{Kind: kind, Props: prs{{Id: 33, N: 5}, {Id: 34, N: 6}, {Id: 39, N: 7}}}, usual)
		}
		of(t, version, pack{Kind: api.Connect, Clean: true, Client: "a"}, usual)
		of(t, version, pack{Kind: api.Connack, Code: 5}, usual)
	}
}

// P13.1: packets of other kinds say nothing, those that may be, and those that may not.
func TestP13_1Kinds(t *testing.T) {
	l := prs{{Id: 33, N: 5}, {Id: 34, N: 6}, {Id: 39, N: 7}}
	for _, kind := range []int{math.MinInt, -2, -1, 0, 3, 4, 5, 6, 7, 8, 9, 10, 11, 12, 13, 14, 15, 16, 17, 256 + 2, 1<<32 + 2, math.MaxInt} {
		of(t, api.V5, pack{Kind: kind}, usual)
		of(t, api.V5, pack{Kind: kind, Props: l}, usual)
		of(t, api.V5, pack{Kind: kind, Id: 7, Topic: "a", Props: l}, usual)
	}
	for _, p := range []pack{
		{Kind: api.Publish, Topic: "a", Props: prs{{Id: 35, N: 5}}}, {Kind: api.Puback, Id: 7, Props: prs{{Id: 31, A: "r"}}},
		{Kind: api.Subscribe, Id: 7, Props: prs{{Id: 11, N: 5}}, Filters: []packet.Filter{{Text: "a"}}}, {Kind: api.Suback, Id: 7, Codes: []uint8{0}},
		{Kind: api.Pingreq}, {Kind: api.Disconnect, Props: prs{{Id: 17, N: 5}}}, {Kind: api.Auth, Code: 24, Props: prs{{Id: 21, A: "m"}}},
	} {
		if !packet.Right(api.V5, p) {
			t.Errorf("kind %d isn't Right", p.Kind)
		}
		of(t, api.V5, p, usual)
	}
}

// P1 of DOC.md: any packets have an answer, and what may not be has the Default.
func TestP1AnyArguments(t *testing.T) {
	random := rand.New(rand.NewSource(9))
	told := 0
	for range 50000 {
		var l prs
		for range random.Intn(4) {
			l = append(l, prop.Prop{Id: uint8(31 + random.Intn(12)), N: []uint32{0, 1, 1, 2, 5, 65535, 65536, random.Uint32()}[random.Intn(8)]})
		}
		if random.Intn(4) > 0 {
			slices.SortFunc(l, func(p, q prop.Prop) int { return int(p.Id) - int(q.Id) })
		}
		version, kind := []int{3, 4, 5, 5, 5, 6}[random.Intn(6)], random.Intn(4)
		p := pack{Kind: kind, Props: l, Code: uint8(random.Intn(8) / 7), Client: "a"[:random.Intn(2)]}
		want := usual
		if version == api.V5 && (kind == api.Connect || kind == api.Connack) && packet.Right(version, p) {
			want = read(kind, l)
		}
		if want != usual {
			told++
		}
		of(t, version, p, want)
	}
	if told < 300 {
		t.Error("just", told, "said something")
	}
}
