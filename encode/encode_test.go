package encode_test

import (
	"math"
	"slices"
	"strings"
	"testing"

	"pouch/api"
	"pouch/encode"
	"pouch/packet"
	"pouch/prop"
)

type (
	pack = packet.Packet
	prs  = []prop.Prop
	fils = []packet.Filter
)

var (
	full     = strings.Repeat("a", api.MaxText)
	versions = []int{api.V4, api.V5}
	method   = prop.Prop{Id: 21, A: "m"}
	alias    = prop.Prop{Id: 35, N: 1}
)

// forms are packets and their bytes in each version, by the document's table; "no": it may not be in that version.
var forms = []struct {
	p      pack
	b4, b5 string
}{
	{pack{Kind: api.Connect, Clean: true}, "\x10\x0C\x00\x04MQTT\x04\x02\x00\x00\x00\x00", "\x10\x0D\x00\x04MQTT\x05\x02\x00\x00\x00\x00\x00"},
	{pack{Kind: api.Connect}, "no", "\x10\x0D\x00\x04MQTT\x05\x00\x00\x00\x00\x00\x00"},
	{pack{Kind: api.Connect, Client: "ab", Keep: 258}, "\x10\x0E\x00\x04MQTT\x04\x00\x01\x02\x00\x02ab", "\x10\x0F\x00\x04MQTT\x05\x00\x01\x02\x00\x00\x02ab"},
	{pack{Kind: api.Connect, Client: "a", Props: prs{{Id: 17, N: 5}, {Id: 33, N: 7}}}, "no", "\x10\x16\x00\x04MQTT\x05\x00\x00\x00\x08\x11\x00\x00\x00\x05\x21\x00\x07\x00\x01a"},
	{pack{Kind: api.Connect, Client: "c", HasWill: true, WillQoS: 2, WillRetain: true, WillTopic: "w/x", WillLoad: "\xFF\x00"}, "\x10\x16\x00\x04MQTT\x04\x34\x00\x00\x00\x01c\x00\x03w/x\x00\x02\xFF\x00", "\x10\x18\x00\x04MQTT\x05\x34\x00\x00\x00\x00\x01c\x00\x00\x03w/x\x00\x02\xFF\x00"},
	{pack{Kind: api.Connect, Client: "c", Props: prs{{Id: 33, N: 7}}, HasWill: true, WillTopic: "w", WillProps: prs{{Id: 1, N: 1}, {Id: 24, N: 1}}}, "no", "\x10\x1E\x00\x04MQTT\x05\x04\x00\x00\x03\x21\x00\x07\x00\x01c\x07\x01\x01\x18\x00\x00\x00\x01\x00\x01w\x00\x00"},
	{pack{Kind: api.Connect, Client: "c", HasUser: true}, "\x10\x0F\x00\x04MQTT\x04\x80\x00\x00\x00\x01c\x00\x00", "\x10\x10\x00\x04MQTT\x05\x80\x00\x00\x00\x00\x01c\x00\x00"},
	{pack{Kind: api.Connect, Client: "c", HasUser: true, User: "u", HasPass: true, Pass: "\xFF"}, "\x10\x13\x00\x04MQTT\x04\xC0\x00\x00\x00\x01c\x00\x01u\x00\x01\xFF", "\x10\x14\x00\x04MQTT\x05\xC0\x00\x00\x00\x00\x01c\x00\x01u\x00\x01\xFF"},
	{pack{Kind: api.Connect, Client: "c", HasPass: true, Pass: "pw"}, "no", "\x10\x12\x00\x04MQTT\x05\x40\x00\x00\x00\x00\x01c\x00\x02pw"},
	{pack{Kind: api.Connack}, "\x20\x02\x00\x00", "\x20\x03\x00\x00\x00"},
	{pack{Kind: api.Connack, Present: true}, "\x20\x02\x01\x00", "\x20\x03\x01\x00\x00"},
	{pack{Kind: api.Connack, Code: 5}, "\x20\x02\x00\x05", "no"},
	{pack{Kind: api.Connack, Code: 128}, "no", "\x20\x03\x00\x80\x00"},
	{pack{Kind: api.Connack, Props: prs{{Id: 36, N: 1}}}, "no", "\x20\x05\x00\x00\x02\x24\x01"},
	{pack{Kind: api.Publish, Topic: "a"}, "\x30\x03\x00\x01a", "\x30\x04\x00\x01a\x00"},
	{pack{Kind: api.Publish, Retain: true, Topic: "a/b", Load: "\xFF\x00"}, "\x31\x07\x00\x03a/b\xFF\x00", "\x31\x08\x00\x03a/b\x00\xFF\x00"},
	{pack{Kind: api.Publish, QoS: 1, Topic: "a", Id: 7, Load: "x"}, "\x32\x06\x00\x01a\x00\x07x", "\x32\x07\x00\x01a\x00\x07\x00x"},
	{pack{Kind: api.Publish, Dup: true, QoS: 2, Retain: true, Topic: "a", Id: 65534}, "\x3D\x05\x00\x01a\xFF\xFE", "\x3D\x06\x00\x01a\xFF\xFE\x00"},
	{pack{Kind: api.Publish, Props: prs{alias}, Load: "x"}, "no", "\x30\x07\x00\x00\x03\x23\x00\x01x"},
	{pack{Kind: api.Publish, Topic: "a", QoS: 1, Id: 7, Props: prs{{Id: 11, N: 321}, alias}}, "no", "\x32\x0C\x00\x01a\x00\x07\x06\x0B\xC1\x02\x23\x00\x01"},
	{pack{Kind: api.Puback, Id: 7}, "\x40\x02\x00\x07", "\x40\x02\x00\x07"},
	{pack{Kind: api.Pubrec, Id: 256}, "\x50\x02\x01\x00", "\x50\x02\x01\x00"},
	{pack{Kind: api.Pubrel, Id: 7}, "\x62\x02\x00\x07", "\x62\x02\x00\x07"},
	{pack{Kind: api.Pubcomp, Id: 65535}, "\x70\x02\xFF\xFF", "\x70\x02\xFF\xFF"},
	{pack{Kind: api.Puback, Id: 7, Code: 16}, "no", "\x40\x03\x00\x07\x10"},
	{pack{Kind: api.Pubrec, Id: 7, Props: prs{{Id: 31, A: "r"}}}, "no", "\x50\x08\x00\x07\x00\x04\x1F\x00\x01r"},
	{pack{Kind: api.Pubrel, Id: 7, Code: 146, Props: prs{{Id: 38, A: "k", B: "v"}}}, "no", "\x62\x0B\x00\x07\x92\x07\x26\x00\x01k\x00\x01v"},
	{pack{Kind: api.Pubcomp, Id: 7, Code: 146}, "no", "\x70\x03\x00\x07\x92"},
	{pack{Kind: api.Subscribe, Id: 7, Filters: fils{{Text: "a/+", Opt: 1}, {Text: "#", Opt: 2}}}, "\x82\x0C\x00\x07\x00\x03a/+\x01\x00\x01#\x02", "\x82\x0D\x00\x07\x00\x00\x03a/+\x01\x00\x01#\x02"},
	{pack{Kind: api.Subscribe, Id: 7, Props: prs{{Id: 11, N: 1}}, Filters: fils{{Text: "$share/g/a", Opt: 42}}}, "no", "\x82\x12\x00\x07\x02\x0B\x01\x00\x0A$share/g/a\x2A"},
	{pack{Kind: api.Suback, Id: 7, Codes: []uint8{0, 128, 1}}, "\x90\x05\x00\x07\x00\x80\x01", "\x90\x06\x00\x07\x00\x00\x80\x01"},
	{pack{Kind: api.Suback, Id: 7, Codes: []uint8{162}, Props: prs{{Id: 31}}}, "no", "\x90\x07\x00\x07\x03\x1F\x00\x00\xA2"},
	{pack{Kind: api.Unsubscribe, Id: 7, Filters: fils{{Text: "a"}, {Text: "b/#"}}}, "\xA2\x0A\x00\x07\x00\x01a\x00\x03b/#", "\xA2\x0B\x00\x07\x00\x00\x01a\x00\x03b/#"},
	{pack{Kind: api.Unsubscribe, Id: 7, Filters: fils{{Text: "+"}}, Props: prs{{Id: 38}}}, "no", "\xA2\x0B\x00\x07\x05\x26\x00\x00\x00\x00\x00\x01+"},
	{pack{Kind: api.Unsuback, Id: 7}, "\xB0\x02\x00\x07", "no"},
	{pack{Kind: api.Unsuback, Id: 7, Codes: []uint8{17, 0}}, "no", "\xB0\x05\x00\x07\x00\x11\x00"},
	{pack{Kind: api.Unsuback, Id: 7, Codes: []uint8{0}, Props: prs{{Id: 38}, {Id: 38, A: "k"}}}, "no", "\xB0\x0F\x00\x07\x0B\x26\x00\x00\x00\x00\x26\x00\x01k\x00\x00\x00"},
	{pack{Kind: api.Pingreq}, "\xC0\x00", "\xC0\x00"},
	{pack{Kind: api.Pingresp}, "\xD0\x00", "\xD0\x00"},
	{pack{Kind: api.Disconnect}, "\xE0\x00", "\xE0\x00"},
	{pack{Kind: api.Disconnect, Code: 4}, "no", "\xE0\x01\x04"},
	{pack{Kind: api.Disconnect, Props: prs{{Id: 17, N: 1}}}, "no", "\xE0\x07\x00\x05\x11\x00\x00\x00\x01"},
	{pack{Kind: api.Disconnect, Code: 142, Props: prs{{Id: 28, A: "s"}}}, "no", "\xE0\x06\x8E\x04\x1C\x00\x01s"},
	{pack{Kind: api.Auth, Code: 24, Props: prs{method}}, "no", "\xF0\x06\x18\x04\x15\x00\x01m"},
	{pack{Kind: api.Auth, Props: prs{method, {Id: 22, A: "\xFF"}}}, "no", "\xF0\x0A\x00\x08\x15\x00\x01m\x16\x00\x01\xFF"},
}

// laid says whether p's form is as it is wanted to be; "no": there is none.
func laid(t *testing.T, version int, p pack, want string) {
	t.Helper()
	b, err := encode.Encode(version, p)
	size := encode.Size(version, p)
	if want == "no" {
		if err != api.ErrArg || len(b) != 0 || size != 0 {
			t.Errorf("%d, a %s that may not be: %d bytes, %d, Size %d", version, packet.Name(p.Kind), len(b), err, size)
		}
		return
	}
	if err != api.OK || string(b) != want || size != len(want) {
		t.Errorf("%d, %s: %.60x, %d, Size %d, want %.60x, Size %d", version, packet.Name(p.Kind), b, err, size, want, len(want))
	}
}

// P8.1: the form of packets of each kind, in each version, and its size.
func TestP8_1Forms(t *testing.T) {
	for _, c := range forms {
		laid(t, api.V4, c.p, c.b4)
		laid(t, api.V5, c.p, c.b5)
	}
}

// P8.1: nil and empty lists are one.
func TestP8_1EmptyLists(t *testing.T) {
	for _, c := range forms {
		p := c.p
		if len(p.Props) == 0 {
			p.Props = prs{}
		}
		if len(p.WillProps) == 0 {
			p.WillProps = prs{}
		}
		if len(p.Filters) == 0 {
			p.Filters = fils{}
		}
		if len(p.Codes) == 0 {
			p.Codes = []uint8{}
		}
		laid(t, api.V4, p, c.b4)
		laid(t, api.V5, p, c.b5)
	}
}

// P8.1, P1: other versions have no packets.
func TestP8_1Versions(t *testing.T) {
	for _, c := range forms {
		for _, version := range []int{math.MinInt, -4, -1, 0, 1, 3, 6, 256 + 4, 256 + 5, 1<<32 + 4, 1<<32 + 5, math.MaxInt} {
			laid(t, version, c.p, "no")
		}
	}
}

// P8.1: all flags of a Connect, each with what it stands for, in the order of the table.
func TestP8_1ConnectFlags(t *testing.T) {
	for flags := range 256 {
		bit := func(n int) bool { return flags&n != 0 }
		p := pack{Kind: api.Connect, Clean: bit(2), Keep: 0x0102, Client: "c", HasWill: bit(4), WillQoS: uint8(flags >> 3 & 3), WillRetain: bit(32), HasPass: bit(64), HasUser: bit(128)}
		b4, b5 := "\x00\x01c", "\x00\x00\x01c"
		if p.HasWill {
			p.WillTopic, p.WillLoad = "w", "l"
			b4, b5 = b4+"\x00\x01w\x00\x01l", b5+"\x00\x00\x01w\x00\x01l"
		}
		if p.HasUser {
			p.User = "us"
			b4, b5 = b4+"\x00\x02us", b5+"\x00\x02us"
		}
		if p.HasPass {
			p.Pass = "\x00pw"
			b4, b5 = b4+"\x00\x03\x00pw", b5+"\x00\x03\x00pw"
		}
		b4 = "\x00\x04MQTT\x04" + string([]byte{byte(flags), 1, 2}) + b4
		b5 = "\x00\x04MQTT\x05" + string([]byte{byte(flags), 1, 2}) + b5
		b4, b5 = "\x10"+string([]byte{byte(len(b4))})+b4, "\x10"+string([]byte{byte(len(b5))})+b5
		if bit(1) { // no field stands for it
			continue
		}
		if p.WillQoS == 3 || !p.HasWill && flags&(8+16+32) != 0 {
			b4, b5 = "no", "no"
		}
		if p.HasPass && !p.HasUser {
			b4 = "no"
		}
		laid(t, api.V4, p, b4)
		laid(t, api.V5, p, b5)
	}
}

// P8.1: the flags of each kind, and of what is none, whatever its other fields.
func TestP8_1Flags(t *testing.T) {
	for _, kind := range []int{math.MinInt, -13, -1, 0, 1, 2, 3, 4, 5, 6, 7, 8, 9, 10, 11, 12, 13, 14, 15, 16, 17, 256 + 3, 256 + 6, 1<<32 + 3, 1<<32 + 8, math.MaxInt} {
		for n := range 16 {
			p := pack{Kind: kind, Retain: n&1 != 0, QoS: uint8(n >> 1 & 3), Dup: n&8 != 0, Id: 7, Topic: "a", WillRetain: true, WillQoS: 1}
			want := 0
			switch kind {
			case api.Publish:
				want = n
			case api.Pubrel, api.Subscribe, api.Unsubscribe:
				want = 2
			}
			if got := encode.Flags(p); int(got) != want {
				t.Errorf("Flags of kind %d, %d: %d, want %d", kind, n, got, want)
			}
		}
	}
}

// P8.1: the flags of a Publish stand in its first byte, and it has an Id just where it has a QoS.
func TestP8_1PublishFlags(t *testing.T) {
	for n := range 16 {
		p := pack{Kind: api.Publish, Retain: n&1 != 0, QoS: uint8(n >> 1 & 3), Dup: n&8 != 0, Topic: "t", Load: "l"}
		first := string([]byte{byte(0x30 + n)})
		b4, b5 := first+"\x04\x00\x01tl", first+"\x05\x00\x01t\x00l"
		if p.QoS != 0 {
			p.Id = 0x0102
			b4, b5 = first+"\x06\x00\x01t\x01\x02l", first+"\x07\x00\x01t\x01\x02\x00l"
		}
		if p.QoS == 3 || p.QoS == 0 && p.Dup {
			b4, b5 = "no", "no"
		}
		laid(t, api.V4, p, b4)
		laid(t, api.V5, p, b5)
	}
}

// P8.1: the short code, of each kind that has it: nothing, the code alone, or the code and a section.
func TestP8_1ShortCode(t *testing.T) {
	for _, c := range []struct {
		kind  int
		head  string
		codes []uint8
	}{
		{api.Puback, "\x40", []uint8{0, 16, 128, 153}},
		{api.Pubrec, "\x50", []uint8{0, 16, 128, 153}},
		{api.Pubrel, "\x62", []uint8{0, 146}},
		{api.Pubcomp, "\x70", []uint8{0, 146}},
		{api.Disconnect, "\xE0", []uint8{0, 4, 128, 162}},
	} {
		id, size := uint16(0), byte(0)
		start := ""
		if c.kind != api.Disconnect {
			id, size, start = 7, 2, "\x00\x07"
		}
		for _, code := range c.codes {
			short := c.head + string([]byte{size}) + start
			alone := c.head + string([]byte{size + 1}) + start + string([]byte{code})
			whole := c.head + string([]byte{size + 7}) + start + string([]byte{code}) + "\x05\x26\x00\x00\x00\x00"
			p := pack{Kind: c.kind, Id: id, Code: code}
			if code == 0 {
				laid(t, api.V4, p, short)
				laid(t, api.V5, p, short)
			} else {
				laid(t, api.V4, p, "no")
				laid(t, api.V5, p, alone)
			}
			p.Props = prs{{Id: 38}}
			laid(t, api.V4, p, "no")
			laid(t, api.V5, p, whole)
		}
	}
	for _, code := range []byte{0, 24, 25} {
		laid(t, api.V5, pack{Kind: api.Auth, Code: code}, "no")
		laid(t, api.V5, pack{Kind: api.Auth, Code: code, Props: prs{method}}, "\xF0\x06"+string([]byte{code})+"\x04\x15\x00\x01m")
	}
}

// P8.1: of packets that may not be there is no form, in neither version.
func TestP8_1NotRight(t *testing.T) {
	for _, p := range []pack{
		{}, {Kind: -1}, {Kind: 16}, {Kind: 17}, {Kind: 256 + 12}, {Kind: 1<<32 + 12}, {Kind: math.MinInt}, {Kind: math.MaxInt},
		{Kind: api.Connect, Client: "\xFF"}, {Kind: api.Connect, Client: "a", User: "u"}, {Kind: api.Connect, Client: "a", Pass: "p"}, {Kind: api.Connect, Client: "a", WillTopic: "w"},
		{Kind: api.Connect, Client: "a", HasWill: true}, {Kind: api.Connect, Client: "a", HasWill: true, WillTopic: "w/#"}, {Kind: api.Connect, Client: "a", HasWill: true, WillTopic: "w", WillLoad: full + "a"}, {Kind: api.Connect, Client: full + "a"},
		{Kind: api.Connect, Client: "a", Props: prs{{Id: 1}}}, {Kind: api.Connect, Client: "a", Props: prs{{Id: 33, N: 1}, {Id: 17, N: 1}}}, {Kind: api.Connect, Client: "a", Id: 1},
		{Kind: api.Connack, Present: true, Code: 1}, {Kind: api.Connack, Present: true, Code: 128}, {Kind: api.Connack, Code: 6}, {Kind: api.Connack, Props: prs{{Id: 36, N: 2}}},
		{Kind: api.Publish}, {Kind: api.Publish, Topic: "a/+"}, {Kind: api.Publish, Topic: "a", Id: 1}, {Kind: api.Publish, Topic: "a", QoS: 1}, {Kind: api.Publish, Topic: "a", QoS: 3, Id: 1}, {Kind: api.Publish, Topic: "a", QoS: 255, Id: 1}, {Kind: api.Publish, Topic: "a", Dup: true}, {Kind: api.Publish, Topic: "a", Code: 1},
		{Kind: api.Puback}, {Kind: api.Puback, Id: 1, Code: 1}, {Kind: api.Pubrec, Id: 1, Code: 146}, {Kind: api.Pubrel, Id: 1, Code: 16}, {Kind: api.Pubcomp, Id: 1, Props: prs{{Id: 33, N: 1}}}, {Kind: api.Puback, Id: 1, QoS: 1},
		{Kind: api.Subscribe, Id: 1}, {Kind: api.Subscribe, Filters: fils{{Text: "a"}}}, {Kind: api.Subscribe, Id: 1, Filters: fils{{Text: ""}}}, {Kind: api.Subscribe, Id: 1, Filters: fils{{Text: "a", Opt: 3}}}, {Kind: api.Subscribe, Id: 1, Filters: fils{{Text: "a", Opt: 64}}},
		{Kind: api.Suback, Id: 1}, {Kind: api.Suback, Codes: []uint8{0}}, {Kind: api.Suback, Id: 1, Codes: []uint8{0, 3}}, {Kind: api.Suback, Id: 1, Code: 128, Codes: []uint8{0}},
		{Kind: api.Unsubscribe, Id: 1}, {Kind: api.Unsubscribe, Id: 1, Filters: fils{{Text: "a", Opt: 1}}}, {Kind: api.Unsuback, Codes: []uint8{0}}, {Kind: api.Unsuback, Id: 1, Codes: []uint8{1}},
		{Kind: api.Pingreq, Id: 1}, {Kind: api.Pingresp, Load: "a"}, {Kind: api.Pingresp, Props: prs{{Id: 38}}},
		{Kind: api.Disconnect, Code: 24}, {Kind: api.Disconnect, Id: 1}, {Kind: api.Auth}, {Kind: api.Auth, Code: 1, Props: prs{method}},
	} {
		laid(t, api.V4, p, "no")
		laid(t, api.V5, p, "no")
	}
	laid(t, api.V4, pack{Kind: api.Auth, Props: prs{method}}, "no")
}

// P8.1, P2: how many bytes come behind, at each edge of its Var; and one more than there may be.
func TestP8_1RestEdges(t *testing.T) {
	load := strings.Repeat("x", api.MaxVar)
	for _, c := range []struct {
		rest int
		head string
	}{
		{3, "\x30\x03"}, {127, "\x30\x7F"}, {128, "\x30\x80\x01"}, {16383, "\x30\xFF\x7F"}, {16384, "\x30\x80\x80\x01"},
		{2097151, "\x30\xFF\xFF\x7F"}, {2097152, "\x30\x80\x80\x80\x01"}, {api.MaxVar, "\x30\xFF\xFF\xFF\x7F"},
	} {
		p := pack{Kind: api.Publish, Topic: "a", Load: load[:c.rest-3]}
		b, err := encode.Encode(api.V4, p)
		if err != api.OK || !strings.HasPrefix(string(b[:min(len(b), 20)]), c.head+"\x00\x01a") || len(b) != len(c.head)+c.rest || encode.Size(api.V4, p) != len(b) {
			t.Errorf("%d behind: %d bytes, %d, %x", c.rest, len(b), err, b[:min(len(b), 20)])
		}
	}
	laid(t, api.V4, pack{Kind: api.Publish, Topic: "a", Load: load[2:]}, "no")
	laid(t, api.V5, pack{Kind: api.Publish, Topic: "a", Load: load[3:]}, "no")
	if n := encode.Size(api.V5, pack{Kind: api.Publish, Topic: "a", Load: load[4:]}); n != 5+api.MaxVar {
		t.Errorf("most in version 5: Size %d", n)
	}
}

// P8.1: as many filters, codes, properties and bytes of a text as there may be, and one more.
func TestP8_1Lists(t *testing.T) {
	list := slices.Repeat(fils{{Text: full, Opt: 2}}, api.MaxList)
	laid(t, api.V4, pack{Kind: api.Subscribe, Id: 7, Filters: list}, "\x82\x82\x90\x80\x20\x00\x07"+strings.Repeat("\xFF\xFF"+full+"\x02", 1024))
	laid(t, api.V4, pack{Kind: api.Subscribe, Id: 7, Filters: append(list, list[0])}, "no")
	codes := slices.Repeat([]uint8{1}, api.MaxList)
	laid(t, api.V5, pack{Kind: api.Suback, Id: 7, Codes: codes}, "\x90\x83\x08\x00\x07\x00"+strings.Repeat("\x01", 1024))
	laid(t, api.V5, pack{Kind: api.Suback, Id: 7, Codes: append(codes, 1)}, "no")
	pairs := slices.Repeat(prs{{Id: 38}}, api.MaxProps)
	laid(t, api.V5, pack{Kind: api.Disconnect, Props: pairs}, "\xE0\x83\x28\x00\x80\x28"+strings.Repeat("\x26\x00\x00\x00\x00", 1024))
	laid(t, api.V5, pack{Kind: api.Disconnect, Props: append(pairs, pairs[0])}, "no")
	laid(t, api.V4, pack{Kind: api.Connect, Client: full}, "\x10\x8B\x80\x04\x00\x04MQTT\x04\x00\x00\x00\xFF\xFF"+full)
}
