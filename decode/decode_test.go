package decode_test

import (
	"fmt"
	"math"
	"slices"
	"strings"
	"testing"

	"pouch/api"
	"pouch/decode"
	"pouch/packet"
	"pouch/prop"
)

type (
	pack = packet.Packet
	prs  = []prop.Prop
	fils = []packet.Filter
)

var (
	full     = strings.Repeat("a", api.MaxText)
	versions = []int{api.V4, api.V5}
	odd      = []int{math.MinInt, -4, -1, 0, 1, 3, 6, 256 + 4, 256 + 5, 1<<32 + 4, 1<<32 + 5, math.MaxInt}
	method   = prop.Prop{Id: 21, A: "m"}
)

// P9.1: the fixed header of each first byte, and of each edge of the Var.
func TestP9_1Head(t *testing.T) {
	for first := range 256 {
		for _, c := range []struct {
			digits string
			rest   int
		}{
			{"\x00", 0}, {"\x01", 1}, {"\x7F", 127}, {"\x80\x01", 128}, {"\xC1\x02", 321}, {"\xFF\x7F", 16383}, {"\x80\x80\x01", 16384},
			{"\xFF\xFF\x7F", 2097151}, {"\x80\x80\x80\x01", 2097152}, {"\xFF\xFF\xFF\x7F", 268435455},
		} {
			want := decode.Header{Kind: first / 16, Flags: uint8(first % 16), Head: 1 + len(c.digits), Rest: c.rest}
			for _, behind := range []string{"", "\x00", "\x80", "\xFF\xFF\xFF\xFF\xFF", full} {
				b := string([]byte{byte(first)}) + c.digits + behind
				if h, err := decode.Head([]byte(b)); err != api.OK || h != want {
					t.Errorf("Head of %.20x: %v, %d, want %v", b, h, err, want)
				}
			}
		}
	}
}

// headOf says by the document's words what Head answers.
func headOf(b []byte) (decode.Header, api.Errno) {
	if len(b) == 0 {
		return decode.Header{}, api.ErrShort
	}
	rest, unit := 0, 1
	for i := 1; i < len(b); i++ {
		rest, unit = rest+int(b[i])%128*unit, unit*128
		switch {
		case i == 4 && b[i] >= 128, i > 1 && b[i] == 0:
			return decode.Header{}, api.ErrMalformed
		case b[i] < 128:
			return decode.Header{Kind: int(b[0] / 16), Flags: b[0] % 16, Head: i + 1, Rest: rest}, api.OK
		}
	}
	return decode.Header{}, api.ErrShort
}

// P9.1: of all bytes at the edges, up to six: what lacks is short, what is none is malformed.
func TestP9_1HeadOfAll(t *testing.T) {
	edges := []byte{0, 1, 0x3D, 127, 128, 129, 255}
	var check func(b []byte)
	check = func(b []byte) {
		h, err := decode.Head(b)
		if want, wrong := headOf(b); h != want || err != wrong {
			t.Fatalf("Head of %x: %v, %d, want %v, %d", b, h, err, want, wrong)
		}
		for _, c := range edges {
			if len(b) < 6 {
				check(append(b[:len(b):len(b)], c))
			}
		}
	}
	check(nil)
	check([]byte{})
}

// forms are first bytes, what comes behind the header, and the packets: all may be; some say more than need be, or in another order.
var forms = []struct {
	version int
	first   byte
	rest    string
	p       pack
}{
	{4, 0x10, "\x00\x04MQTT\x04\x02\x00\x0A\x00\x00", pack{Kind: api.Connect, Clean: true, Keep: 10}},
	{5, 0x10, "\x00\x04MQTT\x05\x00\x00\x00\x00\x00\x00", pack{Kind: api.Connect}},
	{4, 0x10, "\x00\x04MQTT\x04\xF6\x01\x02\x00\x01c\x00\x03w/x\x00\x02\xFF\x00\x00\x01u\x00\x02\x00p", pack{Kind: api.Connect, Clean: true, Keep: 258, Client: "c", HasWill: true, WillQoS: 2, WillRetain: true, WillTopic: "w/x", WillLoad: "\xFF\x00", HasUser: true, User: "u", HasPass: true, Pass: "\x00p"}},
	{5, 0x10, "\x00\x04MQTT\x05\x4C\x00\x00\x03\x21\x00\x07\x00\x00\x05\x18\x00\x00\x00\x01\x00\x01w\x00\x00\x00\x00", pack{Kind: api.Connect, Props: prs{{Id: 33, N: 7}}, HasWill: true, WillQoS: 1, WillProps: prs{{Id: 24, N: 1}}, WillTopic: "w", HasPass: true}},
	// Properties in another order, in both sections of a Connect.
	{5, 0x10, "\x00\x04MQTT\x05\x04\x00\x00\x08\x21\x00\x07\x11\x00\x00\x00\x05\x00\x01c\x07\x18\x00\x00\x00\x02\x01\x01\x00\x01w\x00\x00", pack{Kind: api.Connect, Client: "c", Props: prs{{Id: 17, N: 5}, {Id: 33, N: 7}}, HasWill: true, WillProps: prs{{Id: 1, N: 1}, {Id: 24, N: 2}}, WillTopic: "w"}},
	{5, 0x32, "\x00\x01a\x00\x07\x09\x23\x00\x01\x0B\x02\x0B\x01\x01\x01", pack{Kind: api.Publish, QoS: 1, Topic: "a", Id: 7, Props: prs{{Id: 1, N: 1}, {Id: 11, N: 2}, {Id: 11, N: 1}, {Id: 35, N: 1}}}},
	{5, 0xB0, "\x00\x07\x0E\x26\x00\x01b\x00\x00\x1F\x00\x00\x26\x00\x00\x00\x00\x00", pack{Kind: api.Unsuback, Id: 7, Props: prs{{Id: 31}, {Id: 38, A: "b"}, {Id: 38}}, Codes: []uint8{0}}},
	{4, 0x20, "\x01\x00", pack{Kind: api.Connack, Present: true}},
	{4, 0x20, "\x00\x05", pack{Kind: api.Connack, Code: 5}},
	{5, 0x20, "\x00\x9F\x02\x24\x01", pack{Kind: api.Connack, Code: 159, Props: prs{{Id: 36, N: 1}}}},
	{4, 0x3D, "\x00\x01a\x01\x00\xFF\x00", pack{Kind: api.Publish, Dup: true, QoS: 2, Retain: true, Topic: "a", Id: 256, Load: "\xFF\x00"}},
	{5, 0x30, "\x00\x00\x03\x23\x00\x01x", pack{Kind: api.Publish, Props: prs{{Id: 35, N: 1}}, Load: "x"}},
	// The short code: nothing, the code alone, the code and a section, also where less would do.
	{4, 0x40, "\x00\x07", pack{Kind: api.Puback, Id: 7}},
	{5, 0x40, "\x00\x07", pack{Kind: api.Puback, Id: 7}},
	{5, 0x40, "\x00\x07\x00", pack{Kind: api.Puback, Id: 7}},
	{5, 0x40, "\x00\x07\x00\x00", pack{Kind: api.Puback, Id: 7}},
	{5, 0x50, "\x00\x07\x10", pack{Kind: api.Pubrec, Id: 7, Code: 16}},
	{5, 0x50, "\x00\x07\x10\x00", pack{Kind: api.Pubrec, Id: 7, Code: 16}},
	{5, 0x62, "\x00\x07\x92\x03\x1F\x00\x00", pack{Kind: api.Pubrel, Id: 7, Code: 146, Props: prs{{Id: 31}}}},
	{5, 0x70, "\x00\x07\x00\x03\x1F\x00\x00", pack{Kind: api.Pubcomp, Id: 7, Props: prs{{Id: 31}}}},
	{4, 0xE0, "", pack{Kind: api.Disconnect}},
	{5, 0xE0, "", pack{Kind: api.Disconnect}},
	{5, 0xE0, "\x00", pack{Kind: api.Disconnect}},
	{5, 0xE0, "\x00\x00", pack{Kind: api.Disconnect}},
	{5, 0xE0, "\x04", pack{Kind: api.Disconnect, Code: 4}},
	{5, 0xE0, "\x04\x00", pack{Kind: api.Disconnect, Code: 4}},
	{5, 0xE0, "\x00\x08\x1F\x00\x00\x11\x00\x00\x00\x01", pack{Kind: api.Disconnect, Props: prs{{Id: 17, N: 1}, {Id: 31}}}},
	{5, 0xF0, "\x18\x04\x15\x00\x01m", pack{Kind: api.Auth, Code: 24, Props: prs{method}}},
	{4, 0x82, "\x00\x07\x00\x03a/+\x01\x00\x01#\x02", pack{Kind: api.Subscribe, Id: 7, Filters: fils{{Text: "a/+", Opt: 1}, {Text: "#", Opt: 2}}}},
	{5, 0x82, "\x00\x07\x02\x0B\x01\x00\x01a\x2E", pack{Kind: api.Subscribe, Id: 7, Props: prs{{Id: 11, N: 1}}, Filters: fils{{Text: "a", Opt: 0x2E}}}},
	{4, 0x90, "\x00\x07\x00\x80", pack{Kind: api.Suback, Id: 7, Codes: []uint8{0, 128}}},
	{5, 0x90, "\x00\x07\x00\xA2\x00", pack{Kind: api.Suback, Id: 7, Codes: []uint8{162, 0}}},
	{4, 0xA2, "\x00\x07\x00\x01a\x00\x01b", pack{Kind: api.Unsubscribe, Id: 7, Filters: fils{{Text: "a"}, {Text: "b"}}}},
	{5, 0xA2, "\x00\x07\x00\x00\x01a", pack{Kind: api.Unsubscribe, Id: 7, Filters: fils{{Text: "a"}}}},
	{4, 0xB0, "\x00\x07", pack{Kind: api.Unsuback, Id: 7}},
	{5, 0xB0, "\x00\x07\x00\x11", pack{Kind: api.Unsuback, Id: 7, Codes: []uint8{17}}},
	{4, 0xC0, "", pack{Kind: api.Pingreq}}, {5, 0xC0, "", pack{Kind: api.Pingreq}},
	{4, 0xD0, "", pack{Kind: api.Pingresp}}, {5, 0xD0, "", pack{Kind: api.Pingresp}},
}

// told is what an error tells of a packet: the beginning, because there are long ones.
func told(p pack) string {
	return fmt.Sprintf("%.400q", fmt.Sprintf("%+v", p))
}

// taken says whether b's Form and what it is decoded to are as they are wanted to be.
func taken(t *testing.T, version int, b string, want pack, wrong api.Errno) {
	t.Helper()
	form, ok := decode.Form(version, []byte(b))
	if ok != (wrong == api.OK || wrong == api.ErrProtocol) || !packet.Same(form, want) {
		t.Errorf("Form of %.60x, %d: %s, %t", b, version, told(form), ok)
	}
	p, err := decode.Decode(version, []byte(b))
	if wrong != api.OK {
		want = pack{}
	}
	if err != wrong || !packet.Same(p, want) {
		t.Errorf("Decode of %.60x, %d: %s, %d, want %d", b, version, told(p), err, wrong)
	}
}

// P9.1: bytes of each kind, and their packets.
func TestP9_1Forms(t *testing.T) {
	for _, c := range forms {
		taken(t, c.version, whole(c.first, c.rest), c.p, api.OK)
	}
}

// P9.1, P1: of other versions nothing has a Form, and that comes ahead of all else.
func TestP9_1Versions(t *testing.T) {
	for _, version := range odd {
		for _, c := range forms {
			taken(t, version, whole(c.first, c.rest), pack{}, api.ErrArg)
		}
		for _, b := range []string{"", "\x40", "\x40\x02\x00\x00", "\x00\x00", "\xF0\x00"} {
			taken(t, version, b, pack{}, api.ErrArg)
		}
	}
}

// P9.1: of each first byte, whether it is one, in each version.
func TestP9_1FirstBytes(t *testing.T) {
	rests := map[int][2]string{
		1: {"\x00\x04MQTT\x04\x02\x00\x00\x00\x00", "\x00\x04MQTT\x05\x02\x00\x00\x00\x00\x00"}, 2: {"\x00\x00", "\x00\x00\x00"},
		4: {"\x00\x07", "\x00\x07"}, 5: {"\x00\x07", "\x00\x07"}, 6: {"\x00\x07", "\x00\x07"}, 7: {"\x00\x07", "\x00\x07"},
		8: {"\x00\x07\x00\x01a\x00", "\x00\x07\x00\x00\x01a\x00"}, 9: {"\x00\x07\x00", "\x00\x07\x00\x00"},
		10: {"\x00\x07\x00\x01a", "\x00\x07\x00\x00\x01a"}, 11: {"\x00\x07", "\x00\x07\x00\x00"}, 15: {"\x00\x04\x15\x00\x01m", "\x00\x04\x15\x00\x01m"},
	}
	for first := range 256 {
		kind, flags := first/16, first%16
		if kind == api.Publish {
			continue
		}
		for i, version := range versions {
			want := kind != 0 && flags == 0
			switch kind {
			case api.Pubrel, api.Subscribe, api.Unsubscribe:
				want = flags == 2
			case api.Auth:
				want = flags == 0 && version == api.V5
			}
			rest := rests[kind][i]
			b := whole(byte(first), rest)
			if p, err := decode.Decode(version, []byte(b)); (err == api.OK) != want || want && p.Kind != kind || !want && err != api.ErrMalformed {
				t.Errorf("%d, %x: kind %d, %d", version, b, p.Kind, err)
			}
		}
	}
}

// P9.1: a Publish's flags may be any; of QoS 3, too, there is an Id.
func TestP9_1PublishFlags(t *testing.T) {
	for flags := range 16 {
		for _, version := range versions {
			p := pack{Kind: api.Publish, Retain: flags&1 != 0, QoS: uint8(flags >> 1 & 3), Dup: flags&8 != 0, Topic: "t", Load: "l"}
			rest := "\x00\x01t"
			if p.QoS != 0 {
				p.Id = 0x0102
				rest += "\x01\x02"
			}
			if version == api.V5 {
				rest += "\x00"
			}
			rest += "l"
			wrong := api.OK
			if p.QoS == 3 || p.Dup && p.QoS == 0 {
				wrong = api.ErrProtocol
			}
			taken(t, version, whole(byte(0x30+flags), rest), p, wrong)
		}
	}
}

// P9.1: all flags of a Connect.
func TestP9_1ConnectFlags(t *testing.T) {
	for flags := range 256 {
		for _, version := range versions {
			bit := func(n int) bool { return flags&n != 0 }
			p := pack{Kind: api.Connect, Clean: bit(2), Keep: 0x0102, Client: "c", HasWill: bit(4), WillQoS: uint8(flags >> 3 & 3), WillRetain: bit(32), HasPass: bit(64), HasUser: bit(128)}
			section := ""
			if version == api.V5 {
				section = "\x00"
			}
			rest := "\x00\x04MQTT" + string([]byte{byte(version), byte(flags), 1, 2}) + section + "\x00\x01c"
			if p.HasWill {
				p.WillTopic, p.WillLoad = "w", "\x00"
				rest += section + "\x00\x01w\x00\x01\x00"
			}
			if p.HasUser {
				p.User = "us"
				rest += "\x00\x02us"
			}
			if p.HasPass {
				p.Pass = "\xFF"
				rest += "\x00\x01\xFF"
			}
			wrong := api.OK
			if p.WillQoS == 3 || version == api.V4 && p.HasPass && !p.HasUser {
				wrong = api.ErrProtocol
			}
			if bit(1) || !p.HasWill && flags&(8+16+32) != 0 {
				p, wrong = pack{}, api.ErrMalformed
			}
			taken(t, version, whole(0x10, rest), p, wrong)
		}
	}
}

// P9.1: bytes that have no Form.
func TestP9_1Malformed(t *testing.T) {
	for _, c := range []struct {
		what    string
		version int
		first   byte
		rest    string
	}{
		{"an Id that lacks", 4, 0x40, ""}, {"half an Id", 5, 0x40, "\x00"}, {"an Id that lacks", 5, 0x62, ""}, {"half an Id", 4, 0x90, "\x07"},
		{"the name", 4, 0x10, "\x00\x04MQTt\x04\x02\x00\x00\x00\x00"}, {"an older name", 4, 0x10, "\x00\x06MQIsdp\x04\x02\x00\x00\x00\x00"}, {"no name", 4, 0x10, "\x00\x00\x04\x02\x00\x00\x00\x00"}, {"a longer name", 4, 0x10, "\x00\x05MQTTx\x04\x02\x00\x00\x00\x00"},
		{"the other version", 4, 0x10, "\x00\x04MQTT\x05\x02\x00\x00\x00\x00"}, {"the other version", 5, 0x10, "\x00\x04MQTT\x04\x02\x00\x00\x00\x00\x00"}, {"an older version", 4, 0x10, "\x00\x04MQTT\x03\x02\x00\x00\x00\x00"},
		{"Keep lacks", 4, 0x10, "\x00\x04MQTT\x04\x02\x00"}, {"Client lacks", 4, 0x10, "\x00\x04MQTT\x04\x02\x00\x00"}, {"Client is beyond", 4, 0x10, "\x00\x04MQTT\x04\x02\x00\x00\x00\x02a"}, {"a byte behind Client", 4, 0x10, "\x00\x04MQTT\x04\x02\x00\x00\x00\x00\x00"},
		{"a section of version 4", 4, 0x10, "\x00\x04MQTT\x04\x02\x00\x00\x00\x00\x01a"}, {"no section", 5, 0x10, "\x00\x04MQTT\x05\x02\x00\x00\x00\x00"},
		{"WillLoad lacks", 4, 0x10, "\x00\x04MQTT\x04\x04\x00\x00\x00\x01c\x00\x01w"}, {"User lacks", 4, 0x10, "\x00\x04MQTT\x04\x80\x00\x00\x00\x01c"}, {"Pass lacks", 4, 0x10, "\x00\x04MQTT\x04\xC0\x00\x00\x00\x01c\x00\x01u"}, {"no will's section", 5, 0x10, "\x00\x04MQTT\x05\x04\x00\x00\x00\x00\x01c\x00\x01w\x00\x01l"},
		{"a Connack's first byte of 2", 4, 0x20, "\x02\x00"}, {"of 255", 4, 0x20, "\xFF\x00"}, {"of 3", 5, 0x20, "\x03\x00\x00"}, {"no code", 4, 0x20, "\x00"}, {"no section", 5, 0x20, "\x00\x00"}, {"a section of version 4", 4, 0x20, "\x00\x00\x00"}, {"a byte behind", 5, 0x20, "\x00\x00\x00\x00"},
		{"no topic", 4, 0x30, ""}, {"a topic that lacks", 4, 0x30, "\x00\x02a"}, {"no Id", 4, 0x32, "\x00\x01a"}, {"half an Id", 4, 0x34, "\x00\x01a\x00"}, {"no Id of QoS 3", 4, 0x36, "\x00\x01a\x00"}, {"no section", 5, 0x30, "\x00\x01a"}, {"a section beyond", 5, 0x30, "\x00\x01a\x03\x01\x01"},
		{"a code of version 4", 4, 0x40, "\x00\x07\x00"}, {"a code and a section of version 4", 4, 0x62, "\x00\x07\x00\x00"}, {"a code of version 4", 4, 0xE0, "\x00"}, {"a section beyond", 5, 0xE0, "\x00\x01"}, {"a byte behind the section", 5, 0x40, "\x00\x07\x00\x00\x00"}, {"a byte behind the section", 5, 0xE0, "\x00\x00\x00"}, {"a section's Var that is none", 5, 0xE0, "\x00\x80\x00"},
		{"an Auth of version 4", 4, 0xF0, ""}, {"an Auth of version 4", 4, 0xF0, "\x18\x04\x15\x00\x01m"},
		{"no property", 5, 0xE0, "\x00\x02\x04\x00"}, {"a property of id 0", 5, 0xE0, "\x00\x02\x00\x00"}, {"a property that lacks", 5, 0xE0, "\x00\x03\x1F\x00\x01"}, {"a property beyond its section", 5, 0xE0, "\x00\x03\x1F\x00\x01a"}, {"a property's text", 5, 0xE0, "\x00\x04\x1F\x00\x01\xFF"}, {"a property's Var", 5, 0x30, "\x00\x01a\x03\x0B\x80\x00"},
		{"a filter that lacks", 4, 0x82, "\x00\x07\x00\x02a"}, {"half a filter's length", 4, 0x82, "\x00\x07\x00"}, {"no Opt", 4, 0x82, "\x00\x07\x00\x01a"}, {"no Opt of the second one", 4, 0x82, "\x00\x07\x00\x01a\x00\x00\x01b"}, {"an Opt of an Unsubscribe", 4, 0xA2, "\x00\x07\x00\x01a\x00"}, {"no section", 5, 0x82, "\x00\x07"}, {"no section", 5, 0xA2, "\x00\x07"}, {"no section", 5, 0x90, "\x00\x07"}, {"no section", 5, 0xB0, "\x00\x07"},
		{"a byte behind", 4, 0xC0, "\x00"}, {"a byte behind", 5, 0xD0, "\x00"},
	} {
		taken(t, c.version, whole(c.first, c.rest), pack{}, api.ErrMalformed)
		if t.Failed() {
			t.Fatal(c.what)
		}
	}
}

// P9.1: bytes of which the fixed header is none, or tells of another count than there is.
func TestP9_1Counts(t *testing.T) {
	for _, version := range versions {
		for _, b := range []string{
			"", "\xC0", "\x40", "\xC0\x80", "\xC0\x80\x80\x80", "\xC0\x80\x00", "\xC0\x80\x80\x80\x00", "\xC0\x80\x80\x80\x80", "\xC0\x80\x80\x80\x80\x00",
			"\xC0\x01", "\xC0\x00\x00", "\xC0\x00\xC0\x00", "\x40\x02", "\x40\x02\x00", "\x40\x03\x00\x07", "\x40\x01\x00\x07", "\x40\x02\x00\x07\x00", "\x40\x02\x00\x07\x40\x02\x00\x07", "\x40\x82\x00\x00\x07",
		} {
			taken(t, version, b, pack{}, api.ErrMalformed)
		}
	}
}

// P9.1: bytes that have a Form, of packets that may not be.
func TestP9_1Protocol(t *testing.T) {
	for _, c := range []struct {
		version int
		first   byte
		rest    string
		p       pack
	}{
		{4, 0x10, "\x00\x04MQTT\x04\x00\x00\x00\x00\x00", pack{Kind: api.Connect}},
		{4, 0x10, "\x00\x04MQTT\x04\x40\x00\x00\x00\x01c\x00\x00", pack{Kind: api.Connect, Client: "c", HasPass: true}},
		{4, 0x10, "\x00\x04MQTT\x04\x3C\x00\x00\x00\x01c\x00\x01w\x00\x00", pack{Kind: api.Connect, Client: "c", HasWill: true, WillQoS: 3, WillRetain: true, WillTopic: "w"}},
		{4, 0x10, "\x00\x04MQTT\x04\x04\x00\x00\x00\x01c\x00\x00\x00\x00", pack{Kind: api.Connect, Client: "c", HasWill: true}},
		{5, 0x10, "\x00\x04MQTT\x05\x00\x00\x00\x02\x01\x00\x00\x00", pack{Kind: api.Connect, Props: prs{{Id: 1}}}},
		{5, 0x10, "\x00\x04MQTT\x05\x04\x00\x00\x00\x00\x00\x02\x17\x01\x00\x01w\x00\x00", pack{Kind: api.Connect, HasWill: true, WillTopic: "w", WillProps: prs{{Id: 23, N: 1}}}},
		{4, 0x20, "\x00\x06", pack{Kind: api.Connack, Code: 6}}, {4, 0x20, "\x01\x01", pack{Kind: api.Connack, Present: true, Code: 1}}, {5, 0x20, "\x01\x80\x00", pack{Kind: api.Connack, Present: true, Code: 128}}, {5, 0x20, "\x00\x00\x02\x24\x02", pack{Kind: api.Connack, Props: prs{{Id: 36, N: 2}}}},
		{4, 0x30, "\x00\x00", pack{Kind: api.Publish}}, {5, 0x30, "\x00\x00\x00", pack{Kind: api.Publish}}, {4, 0x30, "\x00\x01#", pack{Kind: api.Publish, Topic: "#"}}, {4, 0x38, "\x00\x01a", pack{Kind: api.Publish, Dup: true, Topic: "a"}}, {4, 0x32, "\x00\x01a\x00\x00", pack{Kind: api.Publish, QoS: 1, Topic: "a"}}, {4, 0x36, "\x00\x01a\x00\x07", pack{Kind: api.Publish, QoS: 3, Topic: "a", Id: 7}},
		{5, 0x30, "\x00\x01a\x06\x23\x00\x01\x23\x00\x02", pack{Kind: api.Publish, Topic: "a", Props: prs{{Id: 35, N: 1}, {Id: 35, N: 2}}}}, {5, 0x30, "\x00\x01a\x03\x23\x00\x00", pack{Kind: api.Publish, Topic: "a", Props: prs{{Id: 35}}}},
		{4, 0x40, "\x00\x00", pack{Kind: api.Puback}}, {5, 0x50, "\x00\x01\x01", pack{Kind: api.Pubrec, Id: 1, Code: 1}}, {5, 0x62, "\x00\x01\x10", pack{Kind: api.Pubrel, Id: 1, Code: 16}}, {5, 0x70, "\x00\x01\x00\x02\x01\x00", pack{Kind: api.Pubcomp, Id: 1, Props: prs{{Id: 1}}}},
		{4, 0x82, "\x00\x07", pack{Kind: api.Subscribe, Id: 7}}, {5, 0x82, "\x00\x07\x00", pack{Kind: api.Subscribe, Id: 7}}, {4, 0x82, "\x00\x00\x00\x01a\x00", pack{Kind: api.Subscribe, Filters: fils{{Text: "a"}}}}, {4, 0x82, "\x00\x07\x00\x01a\x03", pack{Kind: api.Subscribe, Id: 7, Filters: fils{{Text: "a", Opt: 3}}}}, {4, 0x82, "\x00\x07\x00\x01a\xFF", pack{Kind: api.Subscribe, Id: 7, Filters: fils{{Text: "a", Opt: 255}}}}, {4, 0x82, "\x00\x07\x00\x00\x00", pack{Kind: api.Subscribe, Id: 7, Filters: fils{{}}}},
		{4, 0xA2, "\x00\x07", pack{Kind: api.Unsubscribe, Id: 7}}, {4, 0xA2, "\x00\x07\x00\x02a+", pack{Kind: api.Unsubscribe, Id: 7, Filters: fils{{Text: "a+"}}}},
		{4, 0x90, "\x00\x07", pack{Kind: api.Suback, Id: 7}}, {4, 0x90, "\x00\x07\x03", pack{Kind: api.Suback, Id: 7, Codes: []uint8{3}}}, {5, 0x90, "\x00\x07\x00", pack{Kind: api.Suback, Id: 7}}, {4, 0xB0, "\x00\x07\x00", pack{Kind: api.Unsuback, Id: 7, Codes: []uint8{0}}}, {5, 0xB0, "\x00\x07\x00", pack{Kind: api.Unsuback, Id: 7}},
		{5, 0xE0, "\x01", pack{Kind: api.Disconnect, Code: 1}}, {5, 0xF0, "", pack{Kind: api.Auth}}, {5, 0xF0, "\x18", pack{Kind: api.Auth, Code: 24}}, {5, 0xF0, "\x01\x04\x15\x00\x01m", pack{Kind: api.Auth, Code: 1, Props: prs{method}}},
	} {
		taken(t, c.version, whole(c.first, c.rest), c.p, api.ErrProtocol)
	}
}

// head lays a fixed header, by the document's words.
func head(first byte, rest int) string {
	b := []byte{first}
	for ; rest >= 128; rest /= 128 {
		b = append(b, byte(rest%128+128))
	}
	return string(append(b, byte(rest)))
}

// whole lays the fixed header ahead of what comes behind it.
func whole(first byte, rest string) string {
	return head(first, len(rest)) + rest
}

// laid lays a Bin, by the document's words.
func laid(s string) string {
	return string([]byte{byte(len(s) / 256), byte(len(s))}) + s
}

// P9.1: Client, WillTopic, User, Topic and a Filter's Text are texts; a will's load, Pass and Load are any bytes.
func TestP9_1Texts(t *testing.T) {
	for _, s := range []string{"", "a", "é€😀", full, "\x01", "\x7F", "\x00", "a\x00", "\xFF", "\x80", "\xC3", "\xC0\x80", "\xED\xA0\x80", "\xF4\x90\x80\x80", full[1:] + "\xC3"} {
		right := !strings.ContainsAny(s, "\x00") && strings.ToValidUTF8(s, "") == s
		start := "\x00\x04MQTT\x04"
		for _, c := range []struct {
			first byte
			rest  string
			text  bool
		}{
			{0x10, start + "\x02\x00\x00" + laid(s), true},
			{0x10, start + "\x06\x00\x00" + laid("c") + laid(s) + laid("l"), true},
			{0x10, start + "\x06\x00\x00" + laid("c") + laid("w") + laid(s), false},
			{0x10, start + "\x82\x00\x00" + laid("c") + laid(s), true},
			{0x10, start + "\xC2\x00\x00" + laid("c") + laid("u") + laid(s), false},
			{0x30, laid(s) + "load", true},
			{0x32, laid(s) + "\x00\x07", true},
			{0x30, laid("a") + s, false},
			{0x82, "\x00\x07" + laid(s) + "\x01", true},
			{0x82, "\x00\x07" + laid("a") + "\x01" + laid(s) + "\x01" + laid("b") + "\x01", true},
			{0xA2, "\x00\x07" + laid(s), true},
			{0xA2, "\x00\x07" + laid("a") + laid(s), true},
		} {
			b := whole(c.first, c.rest)
			if _, ok := decode.Form(api.V4, []byte(b)); ok != (right || !c.text) {
				t.Errorf("Form of %.60x, with %.9q: %t", b, s, ok)
			}
			_, err := decode.Decode(api.V4, []byte(b))
			if (err == api.ErrMalformed) == (right || !c.text) {
				t.Errorf("Decode of %.60x, with %.9q: %d", b, s, err)
			}
		}
	}
}

// P9.1: as many filters, codes, properties as there may be, and one more: which has a Form, too.
func TestP9_1Lists(t *testing.T) {
	for n, wrong := range map[int]api.Errno{1: api.OK, api.MaxList: api.OK, api.MaxList + 1: api.ErrProtocol, 5000: api.ErrProtocol} {
		rest := "\x00\x07" + strings.Repeat("\x00\x01a\x02", n)
		taken(t, api.V4, whole(0x82, rest), pack{Kind: api.Subscribe, Id: 7, Filters: slices.Repeat(fils{{Text: "a", Opt: 2}}, n)}, wrong)
		rest = "\x00\x07\x00" + strings.Repeat("\x00\x01a", n)
		taken(t, api.V5, whole(0xA2, rest), pack{Kind: api.Unsubscribe, Id: 7, Filters: slices.Repeat(fils{{Text: "a"}}, n)}, wrong)
		rest = "\x00\x07" + strings.Repeat("\x80", n)
		taken(t, api.V4, whole(0x90, rest), pack{Kind: api.Suback, Id: 7, Codes: slices.Repeat([]uint8{128}, n)}, wrong)
		rest = "\x00" + head(0, 5*n)[1:] + strings.Repeat("\x26\x00\x00\x00\x00", n)
		taken(t, api.V5, whole(0xE0, rest), pack{Kind: api.Disconnect, Props: slices.Repeat(prs{{Id: 38}}, n)}, wrong)
	}
}

// P9.1: the most bytes that there may be, and a header that tells of them, with other bytes behind.
func TestP9_1Most(t *testing.T) {
	const start = "\x30\xFF\xFF\xFF\x7F\x00\x01a"
	b := make([]byte, 5+api.MaxVar+1)
	copy(b, start)
	b[len(b)-2] = 'z'
	p, err := decode.Decode(api.V4, b[:len(b)-1])
	if err != api.OK || len(p.Load) != api.MaxVar-3 || p.Load[len(p.Load)-1] != 'z' || p.Topic != "a" {
		t.Errorf("most: %d, %d bytes of load", err, len(p.Load))
	}
	for _, n := range []int{len(b), len(b) - 2, 1000, len(start), 5, 4} {
		if _, err := decode.Decode(api.V4, b[:n]); err != api.ErrMalformed {
			t.Errorf("%d bytes of that: %d", n, err)
		}
	}
}
