package framer_test

import (
	"math"
	"strings"
	"testing"

	"pouch/api"
	"pouch/decode"
	"pouch/framer"
	"pouch/packet"
)

// The packets of which most streams here are made.
const (
	connect4 = "\x10\x0C\x00\x04MQTT\x04\x02\x00\x0A\x00\x00"
	connect5 = "\x10\x0D\x00\x04MQTT\x05\x02\x00\x0A\x00\x00\x00"
	puback   = "\x40\x02\x00\x07"
	pingreq  = "\xC0\x00"
	pingresp = "\xD0\x00"
	none     = "\x40\x02\x00\x00" // a Puback without a number, which may not be
)

var versions = []int{api.V4, api.V5}

// connect answers a Connect of a version.
func connect(version int) string {
	if version == api.V4 {
		return connect4
	}
	return connect5
}

// made answers a Framer that can be.
func made(t *testing.T, version, most int, first bool) *framer.Framer {
	t.Helper()
	f, err := framer.New(version, most, first)
	if f == nil || err != api.OK {
		t.Fatalf("New(%d, %d, %t): %v, %d", version, most, first, f, err)
	}
	if f.Held() != 0 || f.Err() != api.OK {
		t.Fatalf("New(%d, %d, %t): %d held, %d", version, most, first, f.Held(), f.Err())
	}
	return f
}

// fed feeds a piece, and holds what is answered against what should be.
func fed(t *testing.T, f *framer.Framer, version int, piece string, want []string, held int, wrong api.Errno) {
	t.Helper()
	items, err := f.Feed([]byte(piece))
	if err != wrong || f.Err() != wrong || f.Held() != held {
		t.Errorf("Feed of %.40x: %d, Err %d, Held %d, want %d and %d", piece, err, f.Err(), f.Held(), wrong, held)
	}
	if len(items) != len(want) {
		t.Errorf("Feed of %.40x: %d packets, want %d", piece, len(items), len(want))
		return
	}
	for i, item := range items {
		p, err := decode.Decode(version, []byte(want[i]))
		if err != api.OK {
			t.Fatalf("%.40x is no packet: %d", want[i], err)
		}
		if string(item.Bytes) != want[i] || !packet.Same(item.Packet, p) {
			t.Errorf("Feed of %.40x: packet %d is %.40x, kind %d, want %.40x, kind %d", piece, i, item.Bytes, item.Packet.Kind, want[i], p.Kind)
		}
	}
}

// header answers a fixed header.
func header(first byte, rest int) string {
	b := []byte{first}
	for rest > 127 {
		b = append(b, byte(rest%128)+128)
		rest /= 128
	}
	return string(append(b, byte(rest)))
}

// P10.1: New of versions that are none, and of too few bytes.
func TestP10_1New(t *testing.T) {
	for _, first := range []bool{false, true} {
		for _, version := range []int{math.MinInt, -5, -4, -1, 0, 1, 2, 3, 6, 7, 256 + 4, 256 + 5, 1<<32 + 4, 1<<32 + 5, math.MaxInt} {
			for _, most := range []int{-1, 0, 1, 2, 100, math.MaxInt} {
				if f, err := framer.New(version, most, first); f != nil || err != api.ErrArg {
					t.Errorf("New(%d, %d, %t): %v, %d", version, most, first, f, err)
				}
			}
		}
		for _, version := range versions {
			for _, most := range []int{math.MinInt, -1 << 32, -100, -2, -1, 0, 1} {
				if f, err := framer.New(version, most, first); f != nil || err != api.ErrArg {
					t.Errorf("New(%d, %d, %t): %v, %d", version, most, first, f, err)
				}
			}
			for _, most := range []int{2, 3, 4, 5, 100, api.MaxVar, api.MaxVar + 5, api.MaxVar + 6, math.MaxInt32, 1<<32 + 1, math.MaxInt} {
				made(t, version, most, first)
			}
		}
	}
}

// P10.1: the document's example.
func TestP10_1Example(t *testing.T) {
	f := made(t, api.V4, 100, false)
	fed(t, f, api.V4, "\x40", nil, 1, api.OK)
	fed(t, f, api.V4, "\x02\x00", nil, 3, api.OK)
	fed(t, f, api.V4, "\x07\xC0", []string{puback}, 1, api.OK)
}

// P10.1: what is whole is handed out once, in order, and what isn't waits.
func TestP10_1InOrder(t *testing.T) {
	for _, version := range versions {
		for _, first := range []bool{false, true} {
			c := connect(version)
			f := made(t, version, 100, first)
			fed(t, f, version, "", nil, 0, api.OK)
			fed(t, f, version, c, []string{c}, 0, api.OK)
			fed(t, f, version, "", nil, 0, api.OK)
			fed(t, f, version, pingreq+puback+pingresp, []string{pingreq, puback, pingresp}, 0, api.OK)
			fed(t, f, version, pingreq+pingreq+"\x32\x09\x00\x01a", []string{pingreq, pingreq}, 5, api.OK)
			fed(t, f, version, "", nil, 5, api.OK)
			fed(t, f, version, "\x00\x07\x00x", nil, 9, api.OK)
			fed(t, f, version, "yz"+puback[:3], []string{"\x32\x09\x00\x01a\x00\x07\x00xyz"}, 3, api.OK)
			fed(t, f, version, puback[3:]+c+c, []string{puback, c, c}, 0, api.OK)
			fed(t, f, version, "\xC0", nil, 1, api.OK)
			fed(t, f, version, "\x00", []string{pingreq}, 0, api.OK)
		}
	}
}

// P10.1: packets of all kinds that a version has, with their bytes as they came, also such as could be shorter.
func TestP10_1Kinds(t *testing.T) {
	for _, c := range []struct {
		version int
		l       []string
	}{
		{api.V4, []string{connect4, "\x20\x02\x01\x00", "\x3D\x06\x00\x01a\x00\x07x", puback, "\x50\x02\x00\x07", "\x62\x02\x00\x07", "\x70\x02\x00\x07", "\x82\x06\x00\x07\x00\x01a\x01", "\x90\x03\x00\x07\x80", "\xA2\x05\x00\x07\x00\x01a", "\xB0\x02\x00\x07", pingreq, pingresp, "\xE0\x00"}},
		{api.V5, []string{connect5, "\x20\x03\x00\x00\x00", "\x33\x09\x00\x01a\x00\x07\x02\x01\x01x", "\x40\x04\x00\x07\x00\x00", "\x50\x03\x00\x07\x10", "\x62\x02\x00\x07", "\x70\x04\x00\x07\x92\x00", "\x82\x07\x00\x07\x00\x00\x01a\x01", "\x90\x04\x00\x07\x00\x80", "\xA2\x06\x00\x07\x00\x00\x01a", "\xB0\x04\x00\x07\x00\x11", pingreq, pingresp, "\xE0\x0A\x00\x08\x1F\x00\x00\x11\x00\x00\x00\x01", "\xF0\x06\x18\x04\x15\x00\x01m"}},
	} {
		for _, first := range []bool{false, true} {
			fed(t, made(t, c.version, 100, first), c.version, strings.Join(c.l, ""), c.l, 0, api.OK)
		}
		f := made(t, c.version, 100, false)
		for _, b := range c.l {
			fed(t, f, c.version, b, []string{b}, 0, api.OK)
		}
	}
}

// soon feeds bytes one by one: nothing is wrong till the last one.
func soon(t *testing.T, f *framer.Framer, version int, b string, wrong api.Errno) {
	t.Helper()
	for i := range len(b) - 1 {
		fed(t, f, version, b[i:i+1], nil, i+1, api.OK)
	}
	fed(t, f, version, b[len(b)-1:], nil, 0, wrong)
}

// P10.1: a fixed header that is none is told of at the byte that makes it so, whatever the kind, most and first.
func TestP10_1HeadMalformed(t *testing.T) {
	for _, version := range versions {
		for _, first := range []byte{0x00, 0x10, 0x30, 0x3F, 0xC0, 0xC1, 0xF0, 0xFF} {
			for _, digits := range []string{"\x80\x00", "\xFF\x00", "\x80\x80\x00", "\xFF\xFF\x00", "\x80\x80\x80\x00", "\xFF\xFF\xFF\x00", "\x80\x80\x80\x80", "\xFF\xFF\xFF\xFF", "\x80\x80\x80\x81"} {
				for _, most := range []int{2, 100, math.MaxInt} {
					for _, connects := range []bool{false, true} {
						b := string([]byte{first}) + digits
						soon(t, made(t, version, most, connects), version, b, api.ErrMalformed)
						fed(t, made(t, version, most, connects), version, b+"\x00\x00", nil, 0, api.ErrMalformed)
					}
				}
				f := made(t, version, 100, false)
				fed(t, f, version, puback+pingreq+string([]byte{first})+digits, []string{puback, pingreq}, 0, api.ErrMalformed)
			}
		}
	}
}

// P10.1: what has more than most bytes, with its header, is told of as soon as the header is whole; what has as many isn't wrong.
func TestP10_1TooLarge(t *testing.T) {
	for _, version := range versions {
		for _, rest := range []int{1, 2, 3, 98, 99, 126, 127, 128, 129, 16383, 16384, 2097151, 2097152, api.MaxVar} {
			head := header(0x30, rest)
			size := len(head) + rest
			for _, most := range []int{2, 3, size / 2, size - 2, size - 1} {
				if most < 2 || most >= size {
					continue
				}
				soon(t, made(t, version, most, false), version, head, api.ErrTooLarge)
				fed(t, made(t, version, most, false), version, head+"\x00", nil, 0, api.ErrTooLarge)
			}
			for _, most := range []int{size, size + 1, size + 127, math.MaxInt32, math.MaxInt} {
				fed(t, made(t, version, most, false), version, head, nil, len(head), api.OK)
			}
		}
		fed(t, made(t, version, 2, false), version, pingreq, []string{pingreq}, 0, api.OK)
		fed(t, made(t, version, 2, false), version, pingreq+pingreq+"\x40\x02\x00", []string{pingreq, pingreq}, 0, api.ErrTooLarge)
		fed(t, made(t, version, 3, false), version, puback, nil, 0, api.ErrTooLarge)
		fed(t, made(t, version, 4, false), version, puback+"\x40\x03", []string{puback}, 0, api.ErrTooLarge)
	}
}

// P10.1: packets that are as long as may be, and one byte longer, whole.
func TestP10_1Most(t *testing.T) {
	for _, version := range versions {
		for _, rest := range []int{127, 128, 16383, 16384, 2097151, 2097152} {
			b := header(0x30, rest) + "\x00\x01a\x00" + strings.Repeat("x", rest-4)
			fed(t, made(t, version, len(b), false), version, pingreq+b+pingresp, []string{pingreq, b, pingresp}, 0, api.OK)
			fed(t, made(t, version, len(b)-1, false), version, pingreq+b+pingresp, []string{pingreq}, 0, api.ErrTooLarge)
		}
	}
}

// P10.1: where the first packet is to be a Connect, another kind is told of as soon as the header is whole; behind a Connect any may be.
func TestP10_1First(t *testing.T) {
	for _, version := range versions {
		for kind := range 16 {
			for _, rest := range []int{0, 2, 90, 128} {
				head := header(byte(kind*16), rest)
				wrong, held := api.ErrFirst, 0
				if kind == api.Connect {
					wrong, held = api.OK, len(head)
				}
				if kind == api.Connect && rest == 0 {
					wrong, held = api.ErrMalformed, 0
				}
				f := made(t, version, 200, true)
				for i := range len(head) - 1 {
					fed(t, f, version, head[i:i+1], nil, i+1, api.OK)
				}
				fed(t, f, version, head[len(head)-1:], nil, held, wrong)
				if kind != api.Connect {
					fed(t, made(t, version, 200, true), version, head+strings.Repeat("\x00", rest), nil, 0, api.ErrFirst)
				}
				if rest > 0 {
					fed(t, made(t, version, 200, false), version, head, nil, len(head), api.OK)
				}
			}
		}
		c := connect(version)
		fed(t, made(t, version, 100, true), version, pingreq, nil, 0, api.ErrFirst)
		fed(t, made(t, version, 100, true), version, pingreq+c, nil, 0, api.ErrFirst)
		fed(t, made(t, version, 100, true), version, c+pingreq, []string{c, pingreq}, 0, api.OK)
		fed(t, made(t, version, 100, true), version, c+c+none, []string{c, c}, 0, api.ErrProtocol)
		fed(t, made(t, version, 100, false), version, pingreq+c, []string{pingreq, c}, 0, api.OK)
	}
}

// P10.1: what is named first in the document is what is told, where two things are wrong.
func TestP10_1WhichFirst(t *testing.T) {
	for _, version := range versions {
		for _, c := range []struct {
			b     string
			most  int
			first bool
			wrong api.Errno
		}{
			{"\x30\x80\x00", 2, true, api.ErrMalformed},
			{"\x30\xFF\xFF\xFF\xFF", 2, true, api.ErrMalformed},
			{"\x30\x7F", 100, true, api.ErrTooLarge},
			{"\x10\x7F", 100, true, api.ErrTooLarge},
			{"\x00\x63", 100, true, api.ErrTooLarge},
			{none, 3, true, api.ErrTooLarge},
			{none, 3, false, api.ErrTooLarge},
			{none, 4, true, api.ErrFirst},
			{none, 4, false, api.ErrProtocol},
			{"\xC1\x00", 2, true, api.ErrFirst},
			{"\xC1\x00", 2, false, api.ErrMalformed},
			{"\x00\x00", 2, true, api.ErrFirst},
			{"\x00\x00", 2, false, api.ErrMalformed},
			{"\x10\x00", 2, true, api.ErrMalformed},
			{"\x11\x62", 100, true, api.OK},
		} {
			held := 0
			if c.wrong == api.OK {
				held = len(c.b)
			}
			fed(t, made(t, version, c.most, c.first), version, c.b, nil, held, c.wrong)
		}
	}
}

// P10.1: what Decode says against a packet is told when it is whole, not ahead of that.
func TestP10_1Decode(t *testing.T) {
	for _, c := range []struct {
		version int
		b       string
		wrong   api.Errno
	}{
		{4, none, api.ErrProtocol}, {5, none, api.ErrProtocol},
		{4, "\x40\x03\x00\x07\x00", api.ErrMalformed}, {5, "\x40\x03\x00\x07\x01", api.ErrProtocol},
		{4, "\x00\x01\x00", api.ErrMalformed}, {5, "\x00\x01\x00", api.ErrMalformed},
		{4, "\xF0\x00", api.ErrMalformed}, {4, "\xF0\x06\x18\x04\x15\x00\x01m", api.ErrMalformed}, {5, "\xF0\x00", api.ErrProtocol},
		{4, "\x41\x02\x00\x07", api.ErrMalformed}, {5, "\x41\x02\x00\x07", api.ErrMalformed},
		{4, "\x60\x02\x00\x07", api.ErrMalformed}, {5, "\x60\x02\x00\x07", api.ErrMalformed},
		{4, "\x40\x01\x00", api.ErrMalformed}, {5, "\x40\x01\x00", api.ErrMalformed},
		{4, "\x30\x03\x00\x01+", api.ErrProtocol}, {5, "\x30\x04\x00\x01+\x00", api.ErrProtocol},
		{4, "\x30\x04\x00\x02\xC0\x80", api.ErrMalformed},
		{4, "\x82\x02\x00\x07", api.ErrProtocol}, {5, "\x82\x03\x00\x07\x00", api.ErrProtocol},
		{4, connect5, api.ErrMalformed}, {5, connect4, api.ErrMalformed},
		{5, "\x30\x06\x00\x01a\x02\x02\x00", api.ErrMalformed}, {5, "\x30\x07\x00\x01a\x03\x23\x00\x00", api.ErrProtocol},
	} {
		soon(t, made(t, c.version, 100, false), c.version, c.b, c.wrong)
		fed(t, made(t, c.version, len(c.b), false), c.version, c.b, nil, 0, c.wrong)
		fed(t, made(t, c.version, 100, false), c.version, puback+pingreq+c.b+pingreq, []string{puback, pingreq}, 0, c.wrong)
		ahead := connect(c.version)
		fed(t, made(t, c.version, 100, true), c.version, ahead+c.b+pingreq, []string{ahead}, 0, c.wrong)
	}
	soon(t, made(t, api.V4, 100, true), api.V4, connect5, api.ErrMalformed)
	soon(t, made(t, api.V5, 100, true), api.V5, connect4, api.ErrMalformed)
	soon(t, made(t, api.V4, 100, true), api.V4, connect4[:9]+"\x00\x00\x0A\x00\x00", api.ErrProtocol)
}

// P10.1: behind what is wrong nothing is handed out, and the same is answered, whatever comes.
func TestP10_1Over(t *testing.T) {
	for _, version := range versions {
		for _, c := range []struct {
			b     string
			wrong api.Errno
		}{
			{"\x30\x80\x00", api.ErrMalformed}, {"\xC1\x00", api.ErrMalformed}, {none, api.ErrProtocol},
			{"\x30\x7F", api.ErrTooLarge},
		} {
			f := made(t, version, 100, false)
			fed(t, f, version, pingreq+c.b+puback+"\xC0", []string{pingreq}, 0, c.wrong)
			for _, more := range []string{"", pingreq, "\x00", none, "\x30\x7F", "\x30\x80\x00", connect(version), strings.Repeat("x", 1000), ""} {
				fed(t, f, version, more, nil, 0, c.wrong)
			}
		}
		f := made(t, version, 100, true)
		fed(t, f, version, pingreq, nil, 0, api.ErrFirst)
		fed(t, f, version, "\x30\x7F", nil, 0, api.ErrFirst)
		fed(t, f, version, connect(version), nil, 0, api.ErrFirst)
	}
}

// P10.1: Held and Err change nothing, and answer the same till something comes.
func TestP10_1Asked(t *testing.T) {
	f := made(t, api.V4, 100, true)
	for i := range len(connect4) - 1 {
		f.Feed([]byte(connect4[i : i+1]))
		for range 3 {
			if f.Held() != i+1 || f.Err() != api.OK {
				t.Errorf("behind %d bytes: %d held, %d", i+1, f.Held(), f.Err())
			}
		}
	}
	fed(t, f, api.V4, connect4[len(connect4)-1:], []string{connect4}, 0, api.OK)
}

// P10.1: a nil Framer; P1: nor does one panic that New didn't make.
func TestP10_1Nil(t *testing.T) {
	var f *framer.Framer
	for _, b := range [][]byte{nil, {}, []byte("\xC0"), []byte(pingreq), []byte(connect4 + "\x30\x80\x00")} {
		if items, err := f.Feed(b); len(items) != 0 || err != api.ErrArg {
			t.Errorf("Feed of %x by nil: %d packets, %d", b, len(items), err)
		}
		if f.Held() != 0 || f.Err() != api.ErrArg {
			t.Errorf("nil: %d held, %d", f.Held(), f.Err())
		}
		var zero framer.Framer
		if items, _ := zero.Feed(b); len(items) != 0 {
			t.Errorf("Feed of %x by a Framer that was not made: %d packets", b, len(items))
		}
	}
}
