package script_test

import (
	"bytes"
	"math"
	"math/rand"
	"slices"
	"strings"
	"testing"

	"pouch/api"
	"pouch/decode"
	"pouch/guard"
	"pouch/script"
)

type (
	event = script.Event
	deed  = guard.Action
)

var versions = []int{api.V4, api.V5}

// first answers a byte by which a script is of a version.
func first(version int) byte {
	return byte(version % 2)
}

// lines answers the Lines of Events.
func lines(l []event) []string {
	var out []string
	for _, e := range l {
		out = append(out, script.Line(e))
	}
	return out
}

// row is three bytes, and the Lines of their Events in a version: blanks behind the first one are for the eye alone.
type row struct {
	version int
	x, y, z byte
	want    []string
}

// says holds rows, each of a script of its own.
func says(t *testing.T, rows ...row) {
	t.Helper()
	for _, r := range rows {
		var want []string
		for _, line := range r.want {
			want = append(want, line[:2]+strings.ReplaceAll(line[2:], " ", ""))
		}
		s := script.Read([]byte{first(r.version), 0, r.x, r.y, r.z})
		if got := lines(s.Events); !slices.Equal(got, want) || s.Version != r.version {
			t.Errorf("version %d: %d %d %d: version %d, %q, want %q", r.version, r.x, r.y, r.z, s.Version, got, want)
		}
	}
}

// P15.1: Version and Most, of all first two bytes, and of fewer.
func TestP15_1Whole(t *testing.T) {
	for _, b := range [][]byte{nil, {}, {0}, {0, 0}, {254}} {
		if s := script.Read(b); s.Version != 4 || s.Most != 16 || len(s.Events) != 0 {
			t.Errorf("%v: %v", b, s)
		}
	}
	if s := script.Read([]byte{1}); s.Version != 5 || s.Most != 16 || len(s.Events) != 0 {
		t.Error(s)
	}
	for a := range 256 {
		for b := range 256 {
			s := script.Read([]byte{byte(a), byte(b)})
			if s.Version != 4+a%2 || s.Most != 16+4*b || len(s.Events) != 0 {
				t.Fatalf("%d %d: %v", a, b, s)
			}
		}
	}
}

// P15.1: what is left behind three times so many, and behind 60 times three, counts for nothing.
func TestP15_1HowMany(t *testing.T) {
	for _, version := range versions {
		b := []byte{first(version), 0}
		for n := range 200 {
			want := min(n/3, 60)
			s := script.Read(b)
			if len(s.Events) != want || s.Version != version {
				t.Errorf("%d bytes: %d Events, want %d", len(b), len(s.Events), want)
			}
			for i, e := range s.Events {
				if line := []string{"c c000", "s d000"}[i%2]; script.Line(e) != line {
					t.Errorf("Event %d of %d: %s", i, n, script.Line(e))
				}
			}
			b = append(b, []byte{14, 1, 0, 142, 1, 0}[n%6])
		}
	}
	long := bytes.Repeat([]byte{21, 1, 14}, 1<<20)
	if s := script.Read(long); s.Version != 5 || s.Most != 20 || len(s.Events) != 120 {
		t.Error(len(s.Events))
	}
}

// P15.1: the packets that greet: of their sides, whatever x; by all that y and z say.
func TestP15_1Greets(t *testing.T) {
	says(t,
		row{4, 0, 1, 0, []string{"c 100c 00044d515454 04 02 0000 0000"}},
		row{4, 0, 2, 255, []string{"c 100c 00044d515454 04 02 0000 0000"}},
		row{4, 16, 127, 0, []string{"c 100c 00044d515454 04 02 0000 0000"}},
		row{4, 128, 128, 0, []string{"c 100d 00044d515454 04 00 0000 000161"}},
		row{4, 240, 129, 1, []string{"c 100d 00044d515454 04 02 0000 000161"}},
		row{5, 0, 1, 0, []string{"c 100d 00044d515454 05 02 0000 00 0000"}},
		row{5, 144, 2, 0, []string{"c 100d 00044d515454 05 00 0000 00 0000"}},
		row{5, 0, 128, 2, []string{"c 100e 00044d515454 05 00 0000 00 000161"}},
		row{5, 0, 129, 140, []string{"c 100e 00044d515454 05 02 0000 00 000161"}},
		row{5, 0, 1, 64, []string{"c 1012 00044d515454 05 02 0000 05 1100000005 0000"}},
		row{5, 0, 1, 32, []string{"c 1011 00044d515454 05 02 0000 04 1500016d 0000"}},
		row{5, 0, 1, 1, []string{"c 1010 00044d515454 05 02 0000 03 210001 0000"}},
		row{5, 0, 1, 3, []string{"c 1010 00044d515454 05 02 0000 03 210002 0000"}},
		row{5, 0, 1, 5, []string{"c 1010 00044d515454 05 02 0000 03 210003 0000"}},
		row{5, 0, 1, 7, []string{"c 1010 00044d515454 05 02 0000 03 210001 0000"}},
		row{5, 0, 1, 16, []string{"c 1010 00044d515454 05 02 0000 03 220002 0000"}},
		row{5, 0, 130, 115, []string{"c 101d 00044d515454 05 00 0000 0f 1100000005 1500016d 210001 220002 000161"}},
		row{4, 1, 1, 255, []string{"s 2002 0000"}},
		row{4, 129, 239, 0, []string{"s 2002 0000"}},
		row{4, 1, 240, 0, []string{"s 2002 0005"}},
		row{4, 1, 255, 0, []string{"s 2002 0005"}},
		row{5, 1, 1, 14, []string{"s 2003 0000 00"}},
		row{5, 145, 239, 0, []string{"s 2003 0000 00"}},
		row{5, 1, 240, 0, []string{"s 2003 0080 00"}},
		row{5, 1, 1, 32, []string{"s 2007 0000 04 1500016d"}},
		row{5, 1, 1, 5, []string{"s 2006 0000 03 210003"}},
		row{5, 1, 1, 16, []string{"s 2006 0000 03 220002"}},
		row{5, 1, 1, 64, []string{"s 2005 0000 02 2401"}},
		row{5, 1, 1, 128, []string{"s 2005 0000 02 2800"}},
		row{5, 1, 253, 243, []string{"s 2011 0080 0e 1500016d 210002 220002 2401 2800"}},
	)
}

// P15.1: messages, of five rows, and of both sides: QoS, number, load, and in version 5 an alias.
func TestP15_1Messages(t *testing.T) {
	says(t,
		row{4, 2, 1, 0, []string{"c 3003 000174"}},
		row{4, 3, 1, 1, []string{"c 3205 000174 0002"}},
		row{4, 4, 2, 2, []string{"c 3405 000174 0003"}},
		row{4, 5, 3, 3, []string{"c 3004 000174 78"}},
		row{4, 6, 3, 4, []string{"c 3206 000174 0001 78"}},
		row{4, 130, 3, 8, []string{"s 3407 000174 0001 7878"}},
		row{4, 131, 3, 11, []string{"s 3408 000174 0001 787878"}},
		row{4, 134, 3, 12, []string{"s 3003 000174"}},
		row{4, 4, 255, 9, []string{"c 3006 000174 787878"}},
		row{4, 4, 16, 0, []string{"c 3003 000174"}},
		row{5, 2, 1, 0, []string{"c 3004 000174 00"}},
		row{5, 2, 128, 0, []string{"c 3004 000174 00"}},
		row{5, 2, 16, 0, []string{"c 3007 000174 03 230001"}},
		row{5, 2, 48, 0, []string{"c 3007 000174 03 230002"}},
		row{5, 2, 80, 4, []string{"c 320a 000174 0003 03 230001 78"}},
		row{5, 2, 144, 0, []string{"c 3006 0000 03 230001"}},
		row{5, 134, 176, 5, []string{"s 3409 0000 0003 03 230002 78"}},
		row{5, 134, 255, 255, []string{"s 3007 0000 03 230002 78"}},
	)
}

// P15.1: all answers.
func TestP15_1Answers(t *testing.T) {
	for _, version := range versions {
		says(t,
			row{version, 7, 1, 0, []string{"c 4002 0002"}},
			row{version, 135, 2, 255, []string{"s 4002 0003"}},
			row{version, 8, 3, 199, []string{"c 5002 0001"}},
			row{version, 9, 1, 255, []string{"c 6202 0002"}},
			row{version, 137, 255, 200, []string{"s 6202 0001"}},
			row{version, 10, 1, 0, []string{"c 7002 0002"}},
			row{version, 138, 254, 200, []string{"s 7002 0003"}},
		)
	}
	says(t,
		row{4, 8, 3, 200, []string{"c 5002 0001"}},
		row{4, 8, 3, 255, []string{"c 5002 0001"}},
		row{5, 8, 3, 200, []string{"c 5003 0001 80"}},
		row{5, 136, 4, 255, []string{"s 5003 0002 80"}},
	)
}

// P15.1: what is wanted, and no more; its answers.
func TestP15_1Wants(t *testing.T) {
	says(t,
		row{4, 11, 1, 0, []string{"c 8208 0002 0003 612f2b 01"}},
		row{4, 139, 1, 1, []string{"c 820c 0002 0003 612f2b 01 0001 62 01"}},
		row{5, 11, 2, 254, []string{"c 8209 0003 00 0003 612f2b 01"}},
		row{5, 155, 3, 255, []string{"c 820d 0001 00 0003 612f2b 01 0001 62 01"}},
		row{4, 12, 1, 0, []string{"s 9003 0002 00"}},
		row{4, 140, 1, 1, []string{"s 9004 0002 0000"}},
		row{5, 12, 1, 2, []string{"s 9004 0002 00 00"}},
		row{5, 12, 1, 255, []string{"s 9005 0002 00 0000"}},
		row{4, 13, 1, 0, []string{"c a205 0002 0001 62"}},
		row{5, 13, 1, 255, []string{"c a206 0002 00 0001 62"}},
		row{4, 141, 1, 0, []string{"s b002 0002"}},
		row{5, 141, 1, 255, []string{"s b004 0002 00 00"}},
	)
}

// P15.1: what has no number: Pings, Disconnects, Auths, and what is no packet.
func TestP15_1Rest(t *testing.T) {
	for _, version := range versions {
		says(t,
			row{version, 14, 1, 0, []string{"c c000"}},
			row{version, 126, 1, 249, []string{"c c000"}},
			row{version, 142, 1, 249, []string{"s d000"}},
			row{version, 14, 1, 250, []string{"c e000"}},
			row{version, 254, 1, 255, []string{"s e000"}},
			row{version, 15, 1, 255, []string{"c 01"}},
			row{version, 127, 255, 255, []string{"c ff"}},
			row{version, 143, 16, 255, []string{"s 10"}},
		)
	}
	says(t,
		row{4, 15, 1, 0, []string{"c c000"}},
		row{4, 143, 1, 1, []string{"s d000"}},
		row{4, 15, 1, 254, []string{"c c000"}},
		row{4, 143, 1, 250, []string{"s d000"}},
		row{5, 15, 1, 0, []string{"c f006 00 04 1500016d"}},
		row{5, 143, 1, 1, []string{"s f006 18 04 1500016d"}},
		row{5, 31, 1, 2, []string{"c f006 19 04 1500016d"}},
		row{5, 15, 1, 254, []string{"c f006 19 04 1500016d"}},
		row{5, 143, 1, 252, []string{"s f006 00 04 1500016d"}},
	)
}

// P15.1: two pieces of what y divides by 7, the first one the shorter.
func TestP15_1Cut(t *testing.T) {
	says(t,
		row{4, 14, 0, 0, []string{"c c0", "c 00"}},
		row{4, 14, 6, 0, []string{"c c000"}},
		row{4, 142, 7, 0, []string{"s d0", "s 00"}},
		row{4, 142, 8, 0, []string{"s d000"}},
		row{4, 2, 14, 0, []string{"c 3003", "c 000174"}},
		row{4, 130, 21, 1, []string{"s 320500", "s 01740001"}},
		row{5, 7, 252, 0, []string{"c 4002", "c 0001"}},
		row{5, 1, 0, 0, []string{"s 2003", "s 000000"}},
		row{4, 15, 0, 255, []string{"c -", "c 00"}},
		row{5, 143, 119, 255, []string{"s -", "s 77"}},
		row{5, 143, 118, 255, []string{"s 76"}},
	)
}

// P15.1: a script of some packets, of both sides, one of them cut.
func TestP15_1Talk(t *testing.T) {
	s := script.Read([]byte{3, 2, 0, 1, 0, 1, 1, 0, 4, 0, 1, 135, 3, 0, 15, 9, 255, 1, 1})
	want := []string{"c 100d00044d51545405020000000000", "s 2003000000", "c 32060001", "c 74000100", "s 40020001", "c 09"}
	if s.Version != 5 || s.Most != 24 || !slices.Equal(lines(s.Events), want) {
		t.Errorf("%d, %d, %q, want %q", s.Version, s.Most, lines(s.Events), want)
	}
	acts := script.Run(s)
	done := []deed{
		{Kind: 1, Side: 0, Bytes: s.Events[0].Bytes}, {Kind: 1, Side: 1, Bytes: s.Events[1].Bytes},
		{Kind: 1, Side: 0, Bytes: s.Events[2].Bytes + s.Events[3].Bytes}, {Kind: 1, Side: 1, Bytes: s.Events[4].Bytes},
	}
	if !slices.Equal(acts, done) {
		t.Errorf("%v, want %v", acts, done)
	}
}

// P15.1: all y and z of all rows, of both sides, in both versions, against the document's table.
func TestP15_1All(t *testing.T) {
	for _, version := range versions {
		for x := range 32 {
			for y := range 256 {
				for from := 0; from < 256; from += 60 {
					b := []byte{first(version), byte(y)}
					var want []event
					for z := from; z < min(from+60, 256); z++ {
						among := x%16 + 16*((y+z)%8) + 128*(x/16)
						b = append(b, byte(among), byte(y), byte(z))
						want = append(want, table(version, among, y, z)...)
					}
					if got := script.Read(b).Events; !slices.Equal(got, want) {
						t.Fatalf("version %d, row %d, y %d, z from %d: %q, want %q", version, x, y, from, lines(got), lines(want))
					}
				}
			}
		}
	}
}

// P15.1: but where there is to be none, there is a packet that may be.
func TestP15_1Packets(t *testing.T) {
	for _, version := range versions {
		for x := range 256 {
			for i := range 256 {
				y, z := byte(i), byte(i*37+x)
				var b string
				for _, e := range script.Read([]byte{first(version), 0, byte(x), y, z}).Events {
					b += e.Bytes
				}
				none := x%16 == 15 && z == 255
				if _, err := decode.Decode(version, []byte(b)); (err == api.OK) == none {
					t.Errorf("version %d, %d %d %d: %q, %d", version, x, y, z, b, err)
				}
			}
		}
	}
}

// P15.1: Run does what a Guard of Version and Most does, one Event behind the other, whatever their sides.
func TestP15_1Run(t *testing.T) {
	r := rand.New(rand.NewSource(15))
	closed := map[uint8]int{}
	for range 3000 {
		// Few bytes greet, lest each talk ends soon.
		b := []byte{byte(r.Intn(256)), byte(r.Intn(256)), 0, 133, byte(r.Intn(256)), 1, 1, byte(r.Intn(256))}
		for range r.Intn(60) {
			x := byte(2 + r.Intn(14) + 128*r.Intn(2))
			b = append(b, x, byte(r.Intn(256)), byte(r.Intn(256)))
		}
		s := script.Read(b)
		for i := range s.Events {
			if r.Intn(200) == 0 {
				s.Events[i].Side = []int{-1, 2, math.MaxInt, 0, 1}[r.Intn(5)]
			}
		}
		g, err := guard.New(s.Version, s.Most)
		if err != api.OK {
			t.Fatal(err)
		}
		var want []deed
		for _, e := range s.Events {
			want = append(want, g.Feed(e.Side, []byte(e.Bytes))...)
		}
		if got := script.Run(s); !slices.Equal(got, want) {
			t.Fatalf("%v: does %v, want %v", s, got, want)
		}
		if n := len(want); n > 0 && want[n-1].Kind == guard.Close {
			closed[want[n-1].Code]++
		}
	}
	for _, code := range []uint8{129, 130, 147, 148, 149} {
		if closed[code] == 0 {
			t.Errorf("no talk ends with %d: %v", code, closed)
		}
	}
}

// P15.1: where there is no Guard nothing is done; where there are no Events neither.
func TestP15_1RunNothing(t *testing.T) {
	events := []event{{0, "\x10\x0C\x00\x04MQTT\x04\x02\x00\x00\x00\x00"}, {1, "\x20\x02\x00\x00"}, {1, "\x00\x00"}}
	for _, s := range []script.Script{{}, {Version: 4, Most: 1, Events: events}, {Version: 5, Most: 1, Events: events}, {Version: 3, Most: 100, Events: events}, {Version: 6, Most: 100, Events: events}, {Version: 4, Most: -100, Events: events}, {Version: 4, Most: 100}, {Version: 1<<32 + 4, Most: 100, Events: events}} {
		if got := script.Run(s); len(got) != 0 {
			t.Errorf("%v: %v", s, got)
		}
	}
	want := []deed{{Kind: 1, Bytes: events[0].Bytes}, {Kind: 1, Side: 1, Bytes: events[1].Bytes}, {Kind: 2, Side: 1, Code: 129}}
	if got := script.Run(script.Script{Version: 4, Most: 14, Events: events}); !slices.Equal(got, want) {
		t.Errorf("%v, want %v", got, want)
	}
	if got := script.Run(script.Script{Version: 4, Most: 13, Events: events}); !slices.Equal(got, []deed{{Kind: 2, Code: 149}}) {
		t.Error(got)
	}
}

// P15.3: bytes and Events that are handed in stay as they are, their spare room too, and aren't kept; what is answered isn't kept either.
func TestP15_3Memory(t *testing.T) {
	r := rand.New(rand.NewSource(3))
	for range 500 {
		room := make([]byte, 2+r.Intn(120))
		r.Read(room)
		before := bytes.Clone(room)
		b := room[:r.Intn(len(room)+1)]
		s := script.Read(b)
		if !bytes.Equal(room, before) {
			t.Fatalf("Read changes %v to %v", before, room)
		}
		again := script.Read(b)
		for i := range room {
			room[i] ^= 0xFF
		}
		for i := range s.Events {
			s.Events[i] = event{}
		}
		_ = append(s.Events, event{7, "else"}, event{7, "else"}, event{7, "else"})
		if third := script.Read(before[:len(b)]); !slices.Equal(again.Events, third.Events) {
			t.Fatalf("%v, want %v", again.Events, third.Events)
		}
		runs(t, again)
	}
}

// runs holds that Run keeps nothing of a Script, and changes nothing of it.
func runs(t *testing.T, s script.Script) {
	t.Helper()
	room := append(slices.Clone(s.Events), event{1, "spare"}, event{0, "room"})
	before := slices.Clone(room)
	s.Events = room[:len(s.Events)]
	got := script.Run(s)
	if !slices.Equal(room, before) {
		t.Fatalf("Run changes %v to %v", before, room)
	}
	want := slices.Clone(got)
	clear(room)
	if !slices.Equal(got, want) {
		t.Fatalf("%v, want %v", got, want)
	}
	clear(got)
	s.Events = before[:len(s.Events)]
	if again := script.Run(s); !slices.Equal(again, want) {
		t.Fatalf("%v, want %v", again, want)
	}
}

// P1: all calls end, whatever they are given.
func TestP1AnyArguments(t *testing.T) {
	ints := []int{math.MinInt, -1, 0, 1, 2, 3, 4, 5, 6, 100, 1 << 32, math.MaxInt}
	r := rand.New(rand.NewSource(1))
	for range 20000 {
		b := make([]byte, r.Intn(40))
		r.Read(b)
		s := script.Read(b)
		s.Version, s.Most = ints[r.Intn(len(ints))], ints[r.Intn(len(ints))]
		for i := range s.Events {
			s.Events[i].Side = ints[r.Intn(len(ints))]
			script.Line(s.Events[i])
		}
		script.Run(s)
		script.Parse(string(b))
	}
}
