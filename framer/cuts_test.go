package framer_test

import (
	"bytes"
	"math"
	"math/rand"
	"runtime"
	"slices"
	"strings"
	"testing"

	"pouch/api"
	"pouch/decode"
	"pouch/encode"
	"pouch/framer"
	"pouch/packet"
	"pouch/prop"
)

// rule is how a Framer is made.
type rule struct {
	version, most int
	first         bool
}

// state is what a Framer says behind bytes: how long each packet is that it handed out, how many bytes these are, and what is wrong.
type state struct {
	sizes []int
	used  int
	wrong api.Errno
}

// sizeOf says by the document's words how many bytes a packet tells of in its fixed header.
func sizeOf(b []byte) (int, api.Errno) {
	if len(b) == 0 {
		return 0, api.ErrShort
	}
	rest, unit := 0, 1
	for i := 1; i < len(b); i++ {
		rest, unit = rest+int(b[i])%128*unit, unit*128
		switch {
		case i == 4 && b[i] >= 128, i > 1 && b[i] == 0:
			return 0, api.ErrMalformed
		case b[i] < 128:
			return i + 1 + rest, api.OK
		}
	}
	return 0, api.ErrShort
}

// said says by the document's words what comes of all bytes at once.
func said(r rule, b []byte) state {
	var s state
	for {
		left := b[s.used:]
		size, err := sizeOf(left)
		switch {
		case err == api.ErrShort:
			return s
		case err == api.ErrMalformed:
			s.wrong = api.ErrMalformed
			return s
		case size > r.most:
			s.wrong = api.ErrTooLarge
			return s
		case r.first && len(s.sizes) == 0 && left[0]/16 != api.Connect:
			s.wrong = api.ErrFirst
			return s
		case len(left) < size:
			return s
		}
		if _, err := decode.Decode(r.version, left[:size]); err != api.OK {
			s.wrong = err
			return s
		}
		s.sizes = append(s.sizes, size)
		s.used += size
	}
}

// held answers how many bytes wait behind b, and holds that against what may be.
func held(t *testing.T, r rule, s state, b []byte) int {
	t.Helper()
	if s.wrong != api.OK {
		return 0
	}
	left := b[s.used:]
	size, err := sizeOf(left)
	if err == api.ErrShort && len(left) > 4 || err == api.OK && (len(left) > r.most || len(left) >= size) {
		t.Fatalf("%v: %d of %d bytes would wait behind %.60x", r, len(left), size, b)
	}
	return len(left)
}

// cut feeds b by pieces that end where ends say, and behind each of them holds all that is answered against what the bytes till there say.
func cut(t *testing.T, r rule, b []byte, states []state, ends []int) {
	t.Helper()
	f, _ := framer.New(r.version, r.most, r.first)
	from, used, count := 0, 0, 0
	for _, end := range ends {
		items, err := f.Feed(b[from:end])
		want := states[end]
		if err != want.wrong || f.Err() != err || len(items) != len(want.sizes)-count {
			t.Fatalf("%v, %.60x, pieces till %v, at %d: %d packets, %d, Err %d, want %d, %d", r, b, ends, end, len(items), err, f.Err(), len(want.sizes)-count, want.wrong)
		}
		for _, item := range items {
			size := want.sizes[count]
			p, _ := decode.Decode(r.version, b[used:used+size])
			if !bytes.Equal(item.Bytes, b[used:used+size]) || !packet.Same(item.Packet, p) {
				t.Fatalf("%v, %.60x, pieces till %v, at %d: packet %d is %.60x", r, b, ends, end, count, item.Bytes)
			}
			used, count = used+size, count+1
		}
		if n := held(t, r, want, b[:end]); f.Held() != n {
			t.Fatalf("%v, %.60x, pieces till %v, at %d: %d held, want %d", r, b, ends, end, f.Held(), n)
		}
		from = end
	}
}

// statesOf answers what is said behind each beginning of b.
func statesOf(r rule, b []byte) []state {
	l := make([]state, len(b)+1)
	for n := range l {
		l[n] = said(r, b[:n])
	}
	return l
}

// allCuts feeds short bytes by all the cuts there are, some with empty pieces between.
func allCuts(t *testing.T, r rule, b []byte) {
	t.Helper()
	states := statesOf(r, b)
	for which := range 1 << max(0, len(b)-1) {
		ends := []int{}
		for at := 1; at < len(b); at++ {
			if which>>(at-1)&1 != 0 {
				ends = append(ends, at)
			}
		}
		ends = append(ends, len(b), len(b))
		cut(t, r, b, states, ends)
		if which%5 == 0 {
			cut(t, r, b, states, slices.Sorted(slices.Values(append(append([]int{0}, ends...), ends...))))
		}
	}
}

// P10.1, P10.2, P10.3: all bytes of some signs, up to five, by all cuts.
func TestP10_2AllBytes(t *testing.T) {
	signs := []byte{0x00, 0x02, 0x07, 0x40, 0xC0, 0x80}
	var all [][]byte
	var grow func(b []byte)
	grow = func(b []byte) {
		all = append(all, b)
		for _, c := range signs {
			if len(b) < 5 {
				grow(append(b[:len(b):len(b)], c))
			}
		}
	}
	grow(nil)
	for _, r := range []rule{{4, 2, false}, {5, 2, true}, {4, 3, false}, {4, 4, false}, {5, 4, false}, {5, 5, false}, {4, math.MaxInt, false}, {5, 66, true}} {
		for _, b := range all {
			allCuts(t, r, b)
		}
	}
}

// talk lays parts one behind the other.
func talk(parts ...string) []byte { return []byte(strings.Join(parts, "")) }

// someCuts feeds bytes whole, byte by byte, by each cut into two, by pieces of one length, and by some cuts into many.
func someCuts(t *testing.T, r rule, b []byte, random *rand.Rand) {
	t.Helper()
	states := statesOf(r, b)
	for at := range len(b) + 1 {
		cut(t, r, b, states, []int{at, len(b)})
		cut(t, r, b, states, []int{at, at, len(b), len(b)})
	}
	for step := 1; step < 8; step++ {
		ends := []int{}
		for at := step; at < len(b); at += step {
			ends = append(ends, at)
		}
		cut(t, r, b, states, append(ends, len(b)))
	}
	for range 10 {
		cut(t, r, b, states, randomEnds(random, len(b), 1+random.Intn(12)))
	}
}

// randomEnds answers where so many pieces end; some are empty.
func randomEnds(random *rand.Rand, size, count int) []int {
	ends := []int{size}
	for range count {
		ends = append(ends, random.Intn(size+1))
	}
	slices.Sort(ends)
	return ends
}

// P10.1, P10.2, P10.3: packets that may be, and what may not, three of them in all orders, by many cuts.
func TestP10_2Talks(t *testing.T) {
	random := rand.New(rand.NewSource(10))
	for _, version := range versions {
		parts := []string{connect(version), pingreq, puback, "\x32\x09\x00\x01a\x00\x07\x00xyz", header(0x30, 130) + "\x00\x01a\x00" + strings.Repeat("x", 126), none, "\x40\x03\x00\x07\x00", "\x30\x80\x00", "\x30\xFF\xFF\xFF\xFF", "\x30\xFF\xFF\xFF\x7F", "\xF0\x00", "\x00\x00", "\x10"}
		for _, r := range []rule{{version, 200, false}, {version, 200, true}, {version, 11, false}, {version, 132, true}} {
			for _, a := range parts {
				for _, b := range parts {
					someCuts(t, r, talk(a, b, parts[random.Intn(len(parts))], pingreq), random)
				}
			}
		}
	}
}

// packets answers packets of many lengths that may be.
func packets(t *testing.T, version int, random *rand.Rand, count int) []string {
	t.Helper()
	var l []string
	for range count {
		id := uint16(1 + random.Intn(api.MaxId))
		ps := []packet.Packet{
			{Kind: api.Pingreq}, {Kind: api.Pingresp}, {Kind: api.Disconnect}, {Kind: api.Puback, Id: id},
			{Kind: api.Publish, QoS: 1, Topic: "a/b", Id: id, Load: strings.Repeat("\xC0\x00", random.Intn(40))},
			{Kind: api.Publish, Topic: "é", Load: strings.Repeat("x", []int{0, 1, 120, 121, 122, 123, 124, 125, 300}[random.Intn(9)])},
			{Kind: api.Subscribe, Id: id, Filters: slices.Repeat([]packet.Filter{{Text: "a/#", Opt: 1}}, 1+random.Intn(5))},
			{Kind: api.Suback, Id: id, Codes: slices.Repeat([]uint8{128}, 1+random.Intn(9))},
			{Kind: api.Connect, Client: "c", Keep: id, HasWill: true, WillTopic: "w", WillLoad: "\x00"},
		}
		p := ps[random.Intn(len(ps))]
		if version == api.V5 && p.Kind == api.Publish {
			p.Props = []prop.Prop{{Id: 1, N: 1}, {Id: 38, A: "k", B: "v"}}
		}
		b, err := encode.Encode(version, p)
		if err != api.OK {
			t.Fatalf("%d: kind %d: %d", version, p.Kind, err)
		}
		l = append(l, string(b))
	}
	return l
}

// P10.1, P10.2, P10.3: talks of many packets, some with a wrong byte within, by random cuts.
func TestP10_2Random(t *testing.T) {
	random := rand.New(rand.NewSource(11))
	wrong := map[api.Errno]int{}
	for range 800 {
		r := rule{versions[random.Intn(2)], []int{2, 100, 140, 500, math.MaxInt}[random.Intn(5)], random.Intn(2) == 0}
		l := packets(t, r.version, random, 1+random.Intn(12))
		if r.first {
			l = slices.Insert(l, 0, connect(r.version))
		}
		b := talk(l...)
		if random.Intn(2) == 0 {
			b[random.Intn(len(b))] = []byte{0, 1, 2, 0x10, 0x30, 0x7F, 0x80, 0xC0, 0xFF}[random.Intn(9)]
		}
		states := statesOf(r, b)
		wrong[states[len(b)].wrong]++
		for range 8 {
			cut(t, r, b, states, randomEnds(random, len(b), random.Intn(20)))
		}
		ends := []int{}
		for at := range b {
			ends = append(ends, at, at+1)
		}
		cut(t, r, b, states, append(ends, len(b)))
	}
	for _, err := range []api.Errno{api.OK, api.ErrMalformed, api.ErrProtocol, api.ErrTooLarge} {
		if wrong[err] < 5 {
			t.Errorf("just %d talks end with %d", wrong[err], err)
		}
	}
}

// P10.2, P10.3: a long packet, byte by byte and by greater pieces: it waits till its last byte, and no byte is gone through again and again.
func TestP10_2Long(t *testing.T) {
	const rest = 1 << 22
	b := []byte(header(0x30, rest) + "\x00\x01a" + strings.Repeat("x", rest-3))
	for _, step := range []int{1, 2, 3, 1000, 65537, len(b) - 1} {
		f := made(t, api.V4, len(b), false)
		for at := 0; at < len(b)-1; at += step {
			end := min(at+step, len(b)-1)
			if items, err := f.Feed(b[at:end]); len(items) != 0 || err != api.OK || f.Held() != end {
				t.Fatalf("pieces of %d, at %d: %d packets, %d, %d held", step, end, len(items), err, f.Held())
			}
		}
		items, err := f.Feed(b[len(b)-1:])
		if len(items) != 1 || err != api.OK || f.Held() != 0 || !bytes.Equal(items[0].Bytes, b) || len(items[0].Packet.Load) != rest-3 {
			t.Fatalf("pieces of %d: %d packets, %d, %d held", step, len(items), err, f.Held())
		}
	}
}

// P10.2: many short packets in one piece, and each by two pieces: nothing is gone through again and again.
func TestP10_2Many(t *testing.T) {
	const count = 300000
	b := bytes.Repeat([]byte(pingreq), count)
	f := made(t, api.V5, 2, false)
	items, err := f.Feed(append(b, '\xC0'))
	if len(items) != count || err != api.OK || f.Held() != 1 {
		t.Fatalf("%d packets, %d, %d held", len(items), err, f.Held())
	}
	for i, item := range items {
		if string(item.Bytes) != pingreq || item.Packet.Kind != api.Pingreq {
			t.Fatalf("packet %d is %x", i, item.Bytes)
		}
	}
	for range count {
		if items, err := f.Feed([]byte("\x00\xC0")); len(items) != 1 || err != api.OK || f.Held() != 1 {
			t.Fatalf("%d packets, %d, %d held", len(items), err, f.Held())
		}
	}
}

// P10.3: the longest packet that may be, with 4 bytes of header, and then with 5: so many wait, and not one more.
func TestP10_3Edges(t *testing.T) {
	for _, rest := range []int{0, 127, 128, 2097151, 2097152, api.MaxVar} {
		head := header(0x30, rest)
		size := len(head) + rest
		f := made(t, api.V4, size, false)
		for i := range len(head) - 1 {
			fed(t, f, api.V4, head[i:i+1], nil, i+1, api.OK)
			if f.Held() > 4 {
				t.Errorf("%d held ahead of the header's end", f.Held())
			}
		}
		if rest == 0 {
			fed(t, f, api.V4, head[len(head)-1:], nil, 0, api.ErrMalformed)
			continue
		}
		fed(t, f, api.V4, head[len(head)-1:], nil, len(head), api.OK)
		body := "\x00\x01a" + strings.Repeat("x", rest-3)
		fed(t, f, api.V4, body[:rest-1], nil, size-1, api.OK)
		items, err := f.Feed([]byte(body[rest-1:] + "\xC0"))
		if len(items) != 1 || err != api.OK || len(items[0].Bytes) != size || f.Held() != 1 {
			t.Errorf("%d: %d packets, %d, %d held", rest, len(items), err, f.Held())
		}
	}
}

// P10.3: a header that tells of many bytes makes no room for them, and with what is handed out, or wrong, the room goes.
func TestP10_3Room(t *testing.T) {
	const some = 1 << 20
	grown := func(f *framer.Framer, do func()) int {
		var ahead, behind runtime.MemStats
		runtime.GC()
		runtime.ReadMemStats(&ahead)
		do()
		runtime.GC()
		runtime.ReadMemStats(&behind)
		runtime.KeepAlive(f)
		return int(behind.HeapAlloc) - int(ahead.HeapAlloc)
	}
	long := bytes.Repeat([]byte(header(0x30, 2000)+"\x00\x01a"+strings.Repeat("x", 1997)), 5000)
	for _, c := range []struct{ pieces []string }{
		{[]string{header(0x30, api.MaxVar)}},
		{[]string{"", string(long) + "\xC0"}},
		{[]string{"\xC0\x00" + string(long[:len(long)-1]), string(long[len(long)-1:]) + "\xC0"}},
		{[]string{header(0x30, api.MaxVar) + string(long), ""}},
		{[]string{string(long) + "\x30\x80\x00"}},
	} {
		f := made(t, api.V4, math.MaxInt, false)
		n := grown(f, func() {
			for _, piece := range c.pieces {
				f.Feed([]byte(piece))
			}
		})
		if n > f.Held()*2+some {
			t.Errorf("%d bytes are kept for %d that wait", n, f.Held())
		}
	}
}

// P10.4: a piece isn't changed, nor its spare room, and the Framer and what it hands out don't hang on it.
func TestP10_4HandedIn(t *testing.T) {
	for _, version := range versions {
		whole := talk(connect(version), "\x32\x09\x00\x01a\x00\x07\x00xyz", pingreq, puback, none)
		r := rule{version, 100, true}
		want := said(r, whole)
		if len(want.sizes) != 4 || want.wrong != api.ErrProtocol {
			t.Fatalf("%d: %v", version, want)
		}
		for at := range len(whole) + 1 {
			f := made(t, version, 100, true)
			var items []framer.Item
			for _, piece := range [][]byte{whole[:at], whole[at:]} {
				room := append(bytes.Clone(piece), "spare room"...)
				before := bytes.Clone(room)
				l, _ := f.Feed(room[:len(piece)])
				if !bytes.Equal(room, before) {
					t.Fatalf("%x is changed: %x", before, room)
				}
				for i := range room {
					room[i] ^= 0x55
				}
				items = append(items, l...)
			}
			sameItems(t, version, items, whole, want)
		}
	}
}

// sameItems holds what was handed out against the bytes of which it is.
func sameItems(t *testing.T, version int, items []framer.Item, whole []byte, want state) {
	t.Helper()
	if len(items) != len(want.sizes) {
		t.Fatalf("%x: %d packets, want %d", whole, len(items), len(want.sizes))
	}
	at := 0
	for i, item := range items {
		b := whole[at : at+want.sizes[i]]
		p, _ := decode.Decode(version, b)
		if !bytes.Equal(item.Bytes, b) || !packet.Same(item.Packet, p) {
			t.Fatalf("packet %d is %x, kind %d, want %x", i, item.Bytes, item.Packet.Kind, b)
		}
		at += want.sizes[i]
	}
}

// spoil changes all that an item holds, to the last spare place.
func spoil(item *framer.Item) {
	for i := range item.Bytes[:cap(item.Bytes)] {
		item.Bytes[:cap(item.Bytes)][i] = 0x55
	}
	for i := range item.Packet.Props[:cap(item.Packet.Props)] {
		item.Packet.Props[:cap(item.Packet.Props)][i] = prop.Prop{Id: 99}
	}
	for i := range item.Packet.Filters[:cap(item.Packet.Filters)] {
		item.Packet.Filters[:cap(item.Packet.Filters)][i].Text = "spoilt"
	}
	for i := range item.Packet.Codes[:cap(item.Packet.Codes)] {
		item.Packet.Codes[:cap(item.Packet.Codes)][i] = 99
	}
}

// P10.4: what is handed out is new memory: changed, it changes nothing beside it, and nothing that comes later.
func TestP10_4NewMemory(t *testing.T) {
	whole := talk(connect5, "\x32\x0E\x00\x01a\x00\x07\x07\x26\x00\x01k\x00\x01vx", puback, "\x82\x07\x00\x07\x00\x00\x01a\x01", "\x90\x04\x00\x07\x00\x80", puback)
	r := rule{api.V5, 100, true}
	want := said(r, whole)
	if len(want.sizes) != 6 || want.wrong != api.OK {
		t.Fatalf("%v", want)
	}
	for keep := range want.sizes {
		for at := range len(whole) + 1 {
			f := made(t, api.V5, 100, true)
			items, _ := f.Feed(whole[:at])
			ahead := len(items)
			for i := range items {
				if i != keep {
					spoil(&items[i])
				}
			}
			clear(items[ahead:cap(items)])
			more, _ := f.Feed(whole[at:])
			for i := range more {
				if i+ahead != keep {
					spoil(&more[i])
				}
			}
			items = append(items[:ahead:ahead], more...)
			if len(items) != len(want.sizes) || f.Err() != api.OK || f.Held() != 0 {
				t.Fatalf("cut at %d: %d packets, %d, %d held", at, len(items), f.Err(), f.Held())
			}
			from := 0
			for _, size := range want.sizes[:keep] {
				from += size
			}
			sameItems(t, api.V5, items[keep:keep+1], whole[from:from+want.sizes[keep]], state{sizes: want.sizes[keep : keep+1]})
		}
	}
}

// P10.4: Framers share nothing with each other.
func TestP10_4Apart(t *testing.T) {
	f, g := made(t, api.V4, 100, true), made(t, api.V4, 100, false)
	fed(t, f, api.V4, connect4[:5], nil, 5, api.OK)
	fed(t, g, api.V4, puback[:3], nil, 3, api.OK)
	fed(t, f, api.V4, connect4[5:]+"\x30\x80", []string{connect4}, 2, api.OK)
	fed(t, g, api.V4, puback[3:]+none, []string{puback}, 0, api.ErrProtocol)
	fed(t, f, api.V4, "\x01", nil, 0, api.ErrTooLarge)
	fed(t, g, api.V4, pingreq, nil, 0, api.ErrProtocol)
	fed(t, made(t, api.V4, 100, false), api.V4, pingreq, []string{pingreq}, 0, api.OK)
}
