package guard_test

import (
	"bytes"
	"math"
	"math/rand"
	"runtime"
	"runtime/debug"
	"slices"
	"strings"
	"testing"

	"pouch/api"
	"pouch/guard"
	"pouch/ids"
	"pouch/prop"
)

// P14.3: behind a Close, of either side and of whatever cause, and behind a Disconnect that went on, nothing is done, of the same piece neither; and all stands as it stood.
func TestP14_3Over(t *testing.T) {
	for _, version := range versions {
		ping, pong, bad := "\xC0\x00", "\xD0\x00", "\x00\x00"
		gone := laid(t, version, bye())
		ends := []piece{{c, gone}, {c, laid(t, version, connect())}, {c, pong}, {c, bad}, {c, "\x30\xFF\xFF\x7F"}, {c, laid(t, version, answer(api.Puback, 9))}, {s, laid(t, version, connack())}, {s, ping}, {s, bad}, {s, "\x30\xFF\xFF\x7F"}, {s, gone}}
		for _, end := range ends {
			for _, tail := range []string{"", ping, pong, bad, gone, "\xC0", laid(t, version, connect())} {
				p := paired(t, version, 1000)
				more(t, p, step{c, connect(), 0}, step{s, connack(), 0}, step{c, publish(1, 7), 0}, step{s, publish(2, 8), 0})
				if got := p.feed(end.side, end.b+tail); len(got) != 1 {
					t.Errorf("%s: %s", told(end), told(got))
				}
				for _, side := range []int{c, s, c, -1, 2} {
					for _, b := range []string{tail, ping, pong, bad, gone} {
						if got := p.feed(side, b); len(got) != 0 {
							t.Errorf("behind %s: %s", told(end), told(got))
						}
					}
				}
				phase(t, p, guard.Over)
				if !slices.Equal(p.g.Ids(c), ids.Table{{Id: 7, State: 1}}) || !slices.Equal(p.g.Ids(s), ids.Table{{Id: 8, State: 2}}) {
					t.Errorf("behind %s: %v, %v", told(end), p.g.Ids(c), p.g.Ids(s))
				}
			}
		}
	}
}

// P14.4: what goes on is what was sent, also where it could be shorter, or stands in another order.
func TestP14_4AsSent(t *testing.T) {
	p := paired(t, api.V5, 100)
	for _, one := range []piece{
		{c, "\x10\x13\x00\x04MQTT\x05\x02\x00\x00\x06\x22\x00\x05\x21\x00\x06\x00\x00"},
		{s, "\x20\x06\x00\x00\x03\x22\x00\x05"},
		{c, "\x32\x0D\x00\x01a\x00\x07\x05\x23\x00\x05\x01\x01xy"},
		{s, "\x40\x04\x00\x07\x00\x00"},
		{c, "\x34\x06\x00\x01a\x00\x07\x00"},
		{s, "\x50\x03\x00\x07\x00"},
		{c, "\x62\x04\x00\x07\x00\x00"},
		{s, "\x70\x03\x00\x07\x00"},
		{c, "\xE0\x02\x00\x00"},
	} {
		if got := p.feed(one.side, one.b); len(got) != 1 || got[0] != (deed{Kind: guard.Forward, Side: one.side, Bytes: one.b}) {
			t.Fatalf("%s: %s", told(one), told(got))
		}
	}
}

// P14.5: a piece isn't kept, nor changed, its spare room neither; what is answered isn't kept.
func TestP14_5Memory(t *testing.T) {
	for _, version := range versions {
		r := rand.New(rand.NewSource(5))
		all := pool(t, version)
		for range 300 {
			l := cut(r, draw(r, version, all), true)
			want, g := done(t, version, 100, l)
			again := made(t, version, 100)
			var got []deed
			for _, one := range l {
				room := append([]byte(one.b), "spare room"...)
				before := bytes.Clone(room)
				acts := again.Feed(one.side, room[:len(one.b)])
				if !bytes.Equal(room, before) {
					t.Fatalf("Feed changes %q to %q", before, room)
				}
				got = append(got, acts...)
				for i := range room {
					room[i] = 0xFF
				}
				for i := range acts {
					acts[i] = deed{}
				}
				for side := range 2 {
					numbers, shorts := again.Ids(side), again.Aliases(side)
					for i := range numbers {
						numbers[i].State = 77
					}
					for i := range shorts {
						shorts[i].Topic = "else"
					}
					_, _ = append(numbers, ids.Row{}), append(shorts, shorts...)
				}
			}
			if !slices.Equal(got, want) || again.Phase() != g.Phase() {
				t.Fatalf("version %d, %s: does %s, want %s", version, told(l), told(got), told(want))
			}
			for side := range 2 {
				if !slices.Equal(again.Ids(side), g.Ids(side)) || !slices.Equal(again.Aliases(side), g.Aliases(side)) {
					t.Fatalf("version %d, %s: %v %v, want %v %v", version, told(l), again.Ids(side), again.Aliases(side), g.Ids(side), g.Aliases(side))
				}
			}
		}
	}
}

// P14.5: Guards share nothing.
func TestP14_5Apart(t *testing.T) {
	a, b := open(t, api.V5, prs{{Id: 34, N: 1}}, nil), open(t, api.V5, nil, prs{{Id: 33, N: 1}})
	more(t, a, step{c, publish(1, 1), 0}, step{s, publish(1, 1, prop.Prop{Id: 35, N: 1}), 0})
	b.stands()
	more(t, b, step{c, publish(1, 2), 0}, step{c, publish(1, 3), 147})
	a.stands()
	more(t, a, step{c, publish(1, 3), 0})
}

// inUse answers how many bytes are in use.
func inUse() int {
	runtime.GC()
	var m runtime.MemStats
	runtime.ReadMemStats(&m)
	return int(m.HeapAlloc)
}

// P14.5: no more is kept than is needed: of a Connect not its will, of messages not their loads, and behind the end nothing that waited.
func TestP14_5Kept(t *testing.T) {
	const many = 1 << 24
	before := inUse()
	p := made(t, api.V5, 2*many)
	feed := func(side int, one pack, n int) {
		t.Helper()
		if got := p.Feed(side, []byte(laid(t, api.V5, one))); len(got) != n {
			t.Fatalf("kind %d: %d Actions", one.Kind, len(got))
		}
	}
	ask := connect(prop.Prop{Id: 21, A: strings.Repeat("m", 60000)})
	ask.HasWill, ask.WillTopic, ask.WillLoad = true, "w", strings.Repeat("x", 65535)
	feed(c, ask, 1)
	feed(s, connack(prop.Prop{Id: 34, N: 1}), 1)
	big := publish(2, 7, prop.Prop{Id: 35, N: 1})
	big.Load = strings.Repeat("x", many)
	feed(c, big, 1)
	big.Load = ""
	if now := inUse(); now-before > many/8 {
		t.Errorf("%d bytes are kept", now-before)
	}
	b := laid(t, api.V5, pack{Kind: api.Publish, Topic: "t", Load: strings.Repeat("x", many)})
	rest := strings.Clone(b[many:])
	p.Feed(c, []byte(b[:many]))
	p.Feed(s, []byte(b[:many]))
	b = ""
	if now := inUse(); now-before < 2*many {
		t.Errorf("just %d bytes are kept, though packets wait", now-before)
	}
	if got := p.Feed(c, []byte(rest+"\x00\x00")); len(got) != 2 || p.Phase() != guard.Over {
		t.Fatalf("%d Actions", len(got))
	}
	if now := inUse(); now-before > many/8 {
		t.Errorf("%d bytes are kept behind the end", now-before)
	}
	runtime.KeepAlive(p)
}

// P14.1: all numbers at once, which is what is taken where nothing is said: one more message is too many, though its number is in use, too.
func TestP14_1AllAtOnce(t *testing.T) {
	defer debug.SetGCPercent(debug.SetGCPercent(400))
	p := made(t, api.V4, 1000)
	p.Feed(c, []byte(laid(t, api.V4, connect())))
	var b []byte
	for id := 1; id <= api.MaxId; id++ {
		b = append(b, 0x30+byte(2+2*(id%2)), 5, 0, 1, 'a', byte(id>>8), byte(id))
	}
	if got := p.Feed(c, b); len(got) != api.MaxId || got[api.MaxId-1].Kind != guard.Forward || len(p.Ids(c)) != api.MaxId {
		t.Fatalf("%d Actions, %d in use", len(got), len(p.Ids(c)))
	}
	if got := p.Feed(c, b[:7]); len(got) != 1 || got[0].Code != 147 {
		t.Errorf("does %s", told(got))
	}
}

// P1: all calls end, whatever they are given, and Guards that New didn't make.
func TestP1AnyArguments(t *testing.T) {
	r := rand.New(rand.NewSource(1))
	sides := []int{math.MinInt, -1, 0, 0, 0, 0, 1, 1, 1, 1, 2, math.MaxInt}
	for _, version := range versions {
		all := pool(t, version)
		for range 3000 {
			p := paired(t, version, 2+r.Intn(100))
			if r.Intn(4) > 0 {
				p.feed(c, laid(t, version, connect()))
			}
			for range r.Intn(20) {
				b := []byte(all[r.Intn(len(all))].b)
				for range r.Intn(3) {
					b[r.Intn(len(b))] = byte(r.Intn(256))
				}
				p.feed(sides[r.Intn(len(sides))], string(b))
			}
			if p.g.Feed(2, nil) != nil {
				t.Error("there is no side 2")
			}
		}
	}
	for _, g := range []*guard.Guard{nil, {}, new(guard.Guard)} {
		for _, side := range sides {
			for _, b := range [][]byte{nil, {}, {0}, []byte("\xC0\x00"), []byte(laid(t, api.V5, connect()))} {
				g.Feed(side, b)
				g.Phase()
				g.Ids(side)
				g.Aliases(side)
			}
		}
	}
}
