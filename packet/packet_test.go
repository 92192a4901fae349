package packet_test

import (
	"math"
	"reflect"
	"slices"
	"strings"
	"testing"

	"pouch/api"
	"pouch/packet"
	"pouch/prop"
	"pouch/props"
	"pouch/reason"
)

type (
	pack = packet.Packet
	prs  = []prop.Prop
	fils = []packet.Filter
)

var (
	full     = strings.Repeat("a", api.MaxText)
	versions = []int{api.V4, api.V5}
	method   = prop.Prop{Id: 21, A: "m"}
	alias    = prop.Prop{Id: 35, N: 1}
)

// may are packets that may be, and their bytes behind the fixed header, in each version, by the document's table; "no": not in that version.
var may = []struct {
	p      pack
	b4, b5 string
}{
	{pack{Kind: api.Connect, Clean: true}, "\x00\x04MQTT\x04\x02\x00\x00\x00\x00", "\x00\x04MQTT\x05\x02\x00\x00\x00\x00\x00"},
	{pack{Kind: api.Connect}, "no", "\x00\x04MQTT\x05\x00\x00\x00\x00\x00\x00"},
	{pack{Kind: api.Connect, Client: "ab", Keep: 258}, "\x00\x04MQTT\x04\x00\x01\x02\x00\x02ab", "\x00\x04MQTT\x05\x00\x01\x02\x00\x00\x02ab"},
	{pack{Kind: api.Connect, Client: "a", Props: prs{{Id: 17, N: 5}, {Id: 33, N: 7}}}, "no", "\x00\x04MQTT\x05\x00\x00\x00\x08\x11\x00\x00\x00\x05\x21\x00\x07\x00\x01a"},
	{pack{Kind: api.Connect, Client: "a", HasWill: true, WillTopic: "w"}, "\x00\x04MQTT\x04\x04\x00\x00\x00\x01a\x00\x01w\x00\x00", "\x00\x04MQTT\x05\x04\x00\x00\x00\x00\x01a\x00\x00\x01w\x00\x00"},
	{pack{Kind: api.Connect, Client: "a", HasWill: true, WillQoS: 2, WillRetain: true, WillTopic: "w/x", WillLoad: "\xFF\x00"}, "\x00\x04MQTT\x04\x34\x00\x00\x00\x01a\x00\x03w/x\x00\x02\xFF\x00", "\x00\x04MQTT\x05\x34\x00\x00\x00\x00\x01a\x00\x00\x03w/x\x00\x02\xFF\x00"},
	{pack{Kind: api.Connect, Client: "a", HasWill: true, WillTopic: "w", WillProps: prs{{Id: 24, N: 1}}}, "no", "\x00\x04MQTT\x05\x04\x00\x00\x00\x00\x01a\x05\x18\x00\x00\x00\x01\x00\x01w\x00\x00"},
	{pack{Kind: api.Connect, Client: "a", HasUser: true}, "\x00\x04MQTT\x04\x80\x00\x00\x00\x01a\x00\x00", "\x00\x04MQTT\x05\x80\x00\x00\x00\x00\x01a\x00\x00"},
	{pack{Kind: api.Connect, Client: "a", HasUser: true, User: "u", HasPass: true, Pass: "\xFF"}, "\x00\x04MQTT\x04\xC0\x00\x00\x00\x01a\x00\x01u\x00\x01\xFF", "\x00\x04MQTT\x05\xC0\x00\x00\x00\x00\x01a\x00\x01u\x00\x01\xFF"},
	{pack{Kind: api.Connect, Client: "a", HasPass: true, Pass: "pw"}, "no", "\x00\x04MQTT\x05\x40\x00\x00\x00\x00\x01a\x00\x02pw"},
	{pack{Kind: api.Connack}, "\x00\x00", "\x00\x00\x00"},
	{pack{Kind: api.Connack, Present: true}, "\x01\x00", "\x01\x00\x00"},
	{pack{Kind: api.Connack, Code: 5}, "\x00\x05", "no"},
	{pack{Kind: api.Connack, Code: 128}, "no", "\x00\x80\x00"},
	{pack{Kind: api.Connack, Props: prs{{Id: 36, N: 1}}}, "no", "\x00\x00\x02\x24\x01"},
	{pack{Kind: api.Publish, Topic: "a"}, "\x00\x01a", "\x00\x01a\x00"},
	{pack{Kind: api.Publish, Retain: true, Topic: "a/b", Load: "\xFF\x00"}, "\x00\x03a/b\xFF\x00", "\x00\x03a/b\x00\xFF\x00"},
	{pack{Kind: api.Publish, QoS: 1, Topic: "a", Id: 7, Load: "x"}, "\x00\x01a\x00\x07x", "\x00\x01a\x00\x07\x00x"},
	{pack{Kind: api.Publish, Dup: true, QoS: 2, Topic: "a", Id: 65535}, "\x00\x01a\xFF\xFF", "\x00\x01a\xFF\xFF\x00"},
	{pack{Kind: api.Publish, Props: prs{alias}, Load: "x"}, "no", "\x00\x00\x03\x23\x00\x01x"},
	{pack{Kind: api.Publish, Topic: "a", QoS: 1, Id: 7, Props: prs{{Id: 11, N: 321}, alias}}, "no", "\x00\x01a\x00\x07\x06\x0B\xC1\x02\x23\x00\x01"},
	{pack{Kind: api.Puback, Id: 7}, "\x00\x07", "\x00\x07"},
	{pack{Kind: api.Pubrec, Id: 7}, "\x00\x07", "\x00\x07"},
	{pack{Kind: api.Pubrel, Id: 7}, "\x00\x07", "\x00\x07"},
	{pack{Kind: api.Pubcomp, Id: 7}, "\x00\x07", "\x00\x07"},
	{pack{Kind: api.Puback, Id: 7, Code: 16}, "no", "\x00\x07\x10"},
	{pack{Kind: api.Pubrec, Id: 7, Props: prs{{Id: 31, A: "r"}}}, "no", "\x00\x07\x00\x04\x1F\x00\x01r"},
	{pack{Kind: api.Pubrel, Id: 7, Code: 146, Props: prs{{Id: 38, A: "k", B: "v"}}}, "no", "\x00\x07\x92\x07\x26\x00\x01k\x00\x01v"},
	{pack{Kind: api.Pubcomp, Id: 7, Code: 146}, "no", "\x00\x07\x92"},
	{pack{Kind: api.Subscribe, Id: 7, Filters: fils{{"a/+", 1}, {"#", 2}}}, "\x00\x07\x00\x03a/+\x01\x00\x01#\x02", "\x00\x07\x00\x00\x03a/+\x01\x00\x01#\x02"},
	{pack{Kind: api.Subscribe, Id: 7, Props: prs{{Id: 11, N: 1}}, Filters: fils{{"$share/g/a", 42}}}, "no", "\x00\x07\x02\x0B\x01\x00\x0A$share/g/a\x2A"},
	{pack{Kind: api.Suback, Id: 7, Codes: []uint8{0, 128, 1}}, "\x00\x07\x00\x80\x01", "\x00\x07\x00\x00\x80\x01"},
	{pack{Kind: api.Suback, Id: 7, Codes: []uint8{162}, Props: prs{{Id: 31}}}, "no", "\x00\x07\x03\x1F\x00\x00\xA2"},
	{pack{Kind: api.Unsubscribe, Id: 7, Filters: fils{{"a", 0}, {"b/#", 0}}}, "\x00\x07\x00\x01a\x00\x03b/#", "\x00\x07\x00\x00\x01a\x00\x03b/#"},
	{pack{Kind: api.Unsubscribe, Id: 7, Filters: fils{{"$share/g/+", 0}}, Props: prs{{Id: 38}}}, "no", "\x00\x07\x05\x26\x00\x00\x00\x00\x00\x0A$share/g/+"},
	{pack{Kind: api.Unsuback, Id: 7}, "\x00\x07", "no"},
	{pack{Kind: api.Unsuback, Id: 7, Codes: []uint8{17, 0}}, "no", "\x00\x07\x00\x11\x00"},
	{pack{Kind: api.Unsuback, Id: 7, Codes: []uint8{0}, Props: prs{{Id: 38}, {Id: 38}}}, "no", "\x00\x07\x0A\x26\x00\x00\x00\x00\x26\x00\x00\x00\x00\x00"},
	{pack{Kind: api.Pingreq}, "", ""},
	{pack{Kind: api.Pingresp}, "", ""},
	{pack{Kind: api.Disconnect}, "", ""},
	{pack{Kind: api.Disconnect, Code: 4}, "no", "\x04"},
	{pack{Kind: api.Disconnect, Props: prs{{Id: 17, N: 1}}}, "no", "\x00\x05\x11\x00\x00\x00\x01"},
	{pack{Kind: api.Disconnect, Code: 142, Props: prs{{Id: 28, A: "s"}}}, "no", "\x8E\x04\x1C\x00\x01s"},
	{pack{Kind: api.Auth, Code: 24, Props: prs{method}}, "no", "\x18\x04\x15\x00\x01m"},
	{pack{Kind: api.Auth, Props: prs{method, {Id: 22, A: "\xFF"}}}, "no", "\x00\x08\x15\x00\x01m\x16\x00\x01\xFF"},
}

// had are the fields of each kind, by the document's table (a Connect's with all that hangs on others).
var had = [...][]string{
	api.Connect:     {"Clean", "Keep", "Props", "Client", "HasWill", "WillQoS", "WillRetain", "WillProps", "WillTopic", "WillLoad", "HasUser", "User", "HasPass", "Pass"},
	api.Connack:     {"Present", "Code", "Props"},
	api.Publish:     {"Dup", "QoS", "Retain", "Topic", "Id", "Props", "Load"},
	api.Puback:      {"Id", "Code", "Props"},
	api.Pubrec:      {"Id", "Code", "Props"},
	api.Pubrel:      {"Id", "Code", "Props"},
	api.Pubcomp:     {"Id", "Code", "Props"},
	api.Subscribe:   {"Id", "Props", "Filters"},
	api.Suback:      {"Id", "Props", "Codes"},
	api.Unsubscribe: {"Id", "Props", "Filters"},
	api.Unsuback:    {"Id", "Props", "Codes"},
	api.Pingreq:     {},
	api.Pingresp:    {},
	api.Disconnect:  {"Code", "Props"},
	api.Auth:        {"Code", "Props"},
}

// values are, of each field, some that aren't 0, and may be where the field is.
var values = map[string][]any{
	"Kind": {api.Connect, api.Publish, api.Auth, -1, math.MaxInt},
	"Dup":  {true}, "Retain": {true}, "Clean": {true}, "HasWill": {true}, "HasUser": {true}, "HasPass": {true}, "WillRetain": {true}, "Present": {true},
	"QoS": {uint8(1), uint8(2)}, "WillQoS": {uint8(1), uint8(2)}, "Code": {uint8(1), uint8(24), uint8(128)},
	"Id": {uint16(1), uint16(256), uint16(65535)}, "Keep": {uint16(1), uint16(256), uint16(65535)},
	"Client": {"a"}, "WillTopic": {"a"}, "WillLoad": {"a"}, "User": {"a"}, "Pass": {"a"}, "Topic": {"a"}, "Load": {"a"},
	"Filters": {fils{{"a", 0}}, fils{{"", 0}}}, "Codes": {[]uint8{0}, []uint8{128}},
	"Props": {prs{{Id: 38}}, prs{{}}}, "WillProps": {prs{{Id: 38}}, prs{{}}},
}

// with answers p with another value of a field.
func with(p pack, field string, value any) pack {
	reflect.ValueOf(&p).Elem().FieldByName(field).Set(reflect.ValueOf(value))
	return p
}

// fields are all that a Packet has, but for the Kind.
func fields() []string {
	var l []string
	for _, f := range reflect.VisibleFields(reflect.TypeFor[pack]()) {
		if f.Name != "Kind" {
			l = append(l, f.Name)
		}
	}
	return l
}

// plain answers a packet of a kind that may be in a version.
func plain(t *testing.T, version, kind int) pack {
	t.Helper()
	for _, c := range may {
		if c.p.Kind == kind && (version == api.V4 && c.b4 != "no" || version == api.V5 && c.b5 != "no") {
			return c.p
		}
	}
	t.Fatal(version, kind)
	return pack{}
}

// asked says whether Right is as it is wanted to be.
func asked(t *testing.T, version int, p pack, want bool) {
	t.Helper()
	if packet.Right(version, p) != want {
		t.Errorf("Right(%d, %+v): %t", version, short(p), !want)
	}
}

// short is p with its texts cut, to be told of.
func short(p pack) pack {
	for _, s := range []*string{&p.Client, &p.WillTopic, &p.WillLoad, &p.User, &p.Pass, &p.Topic, &p.Load} {
		*s = (*s)[:min(len(*s), 9)]
	}
	p.Filters, p.Codes = p.Filters[:min(len(p.Filters), 3)], p.Codes[:min(len(p.Codes), 3)]
	p.Props, p.WillProps = p.Props[:min(len(p.Props), 3)], p.WillProps[:min(len(p.WillProps), 3)]
	return p
}

// P7.1: packets of each kind, and how many bytes each has behind its fixed header.
func TestP7_1MayBe(t *testing.T) {
	for _, c := range may {
		for i, b := range []string{c.b4, c.b5} {
			v := versions[i]
			asked(t, v, c.p, b != "no")
			if got := packet.Rest(v, c.p); b != "no" && got != len(b) {
				t.Errorf("Rest(%d, %+v): %d, want %d", v, short(c.p), got, len(b))
			}
		}
	}
}

// P7.1: the versions are 4 and 5, the kinds 1 to 15, of version 4 to 14.
func TestP7_1VersionsAndKinds(t *testing.T) {
	odd := []int{math.MinInt, -5, -4, -1, 0, 1, 2, 3, 6, 7, 16, 256 + 4, 256 + 5, 1<<32 + 4, 1<<32 + 5, math.MaxInt}
	for _, c := range may {
		for _, v := range odd {
			asked(t, v, c.p, false)
		}
	}
	for _, v := range append(odd, versions...) {
		for _, kind := range append(odd, 0, 16, 17, -12, 256+12, 1<<32+12) {
			if kind >= api.Connect && kind <= api.Auth {
				continue
			}
			asked(t, v, pack{Kind: kind}, false)
			asked(t, v, pack{Kind: kind, Props: prs{method}}, false)
		}
	}
	asked(t, api.V4, pack{Kind: api.Auth}, false)
	asked(t, api.V4, pack{Kind: api.Auth, Code: 24}, false)
	asked(t, api.V4, pack{Kind: api.Auth, Props: prs{method}}, false)
}

// P7.1: a field that the kind doesn't have is 0.
func TestP7_1OthersFields(t *testing.T) {
	for _, v := range versions {
		for kind := api.Connect; kind <= api.Auth; kind++ {
			if v == api.V4 && kind == api.Auth {
				continue
			}
			p := plain(t, v, kind)
			asked(t, v, p, true)
			for _, field := range fields() {
				for _, value := range values[field] {
					if !slices.Contains(had[kind], field) {
						asked(t, v, with(p, field, value), false)
					}
				}
			}
		}
	}
}

// P7.1: what hangs on HasWill, HasUser, HasPass is 0 without it.
func TestP7_1HangsOn(t *testing.T) {
	for _, v := range versions {
		p := pack{Kind: api.Connect, Client: "a"}
		for _, field := range []string{"WillQoS", "WillRetain", "WillTopic", "WillLoad", "WillProps", "User", "Pass"} {
			for _, value := range values[field] {
				asked(t, v, with(p, field, value), false)
			}
		}
		all := pack{Kind: api.Connect, Client: "a", HasWill: true, WillQoS: 1, WillRetain: true, WillTopic: "w", WillLoad: "l", HasUser: true, User: "u", HasPass: true, Pass: "p"}
		asked(t, v, all, true)
		asked(t, v, with(all, "HasWill", false), false)
		asked(t, v, with(all, "HasUser", false), false)
		asked(t, v, with(all, "HasPass", false), false)
	}
}

// P7.1: nil and empty lists are one.
func TestP7_1EmptyLists(t *testing.T) {
	for _, c := range may {
		q := c.p
		if q.Filters == nil {
			q.Filters = fils{}
		}
		if q.Codes == nil {
			q.Codes = []uint8{}
		}
		if q.Props == nil {
			q.Props = prs{}
		}
		if q.WillProps == nil {
			q.WillProps = prs{}
		}
		if !packet.Same(c.p, q) || !packet.Same(q, c.p) {
			t.Errorf("%+v: not the same", short(q))
		}
		for i, b := range []string{c.b4, c.b5} {
			asked(t, versions[i], q, b != "no")
			if got := packet.Rest(versions[i], q); b != "no" && got != len(b) {
				t.Errorf("Rest(%d, %+v): %d, want %d", versions[i], short(q), got, len(b))
			}
		}
	}
}

// lists are properties that some kind may have, or none.
func lists() []prs {
	l := []prs{
		{{Id: 38}, {Id: 38}}, {{Id: 38}, {Id: 1}}, {{Id: 33, N: 1}, {Id: 33, N: 1}}, {{Id: 33}}, {{Id: 22}}, {method, {Id: 22}}, {{Id: 22}, method},
		{{Id: 11, N: 1}, {Id: 11, N: 2}}, {{Id: 31, A: "\xFF"}}, {{Id: 1, N: 2}}, {{Id: 8, A: "+"}},
		slices.Repeat(prs{{Id: 38}}, api.MaxProps), slices.Repeat(prs{{Id: 38}}, api.MaxProps+1),
	}
	for id := range 256 {
		l = append(l, prs{{Id: uint8(id)}}, prs{{Id: uint8(id), N: 1}}, prs{{Id: uint8(id), A: "a"}})
	}
	return l
}

// P7.1: properties are those of the kind, in version 5; none in version 4.
func TestP7_1Props(t *testing.T) {
	for _, l := range lists() {
		for kind := api.Connect; kind <= api.Disconnect; kind++ {
			asked(t, api.V4, with(plain(t, api.V4, kind), "Props", l), false)
			asked(t, api.V5, with(plain(t, api.V5, kind), "Props", l), props.Check(kind, l))
		}
		_, says := props.Get(l, 21)
		asked(t, api.V5, pack{Kind: api.Auth, Props: l}, props.Check(api.Auth, l) && says)
		will := pack{Kind: api.Connect, Client: "a", HasWill: true, WillTopic: "w", WillProps: l}
		asked(t, api.V4, will, false)
		asked(t, api.V5, will, props.Check(api.Will, l))
	}
}

// P7.1: an Auth is of a method, and of one of three codes.
func TestP7_1Auth(t *testing.T) {
	for code := range 256 {
		known := code == 0 || code == 24 || code == 25
		asked(t, api.V5, pack{Kind: api.Auth, Code: uint8(code), Props: prs{method}}, known)
		asked(t, api.V5, pack{Kind: api.Auth, Code: uint8(code), Props: prs{{Id: 21}, {Id: 22}, {Id: 31}, {Id: 38}}}, known)
		asked(t, api.V5, pack{Kind: api.Auth, Code: uint8(code)}, false)
		asked(t, api.V5, pack{Kind: api.Auth, Code: uint8(code), Props: prs{{Id: 31}, {Id: 38}}}, false)
	}
}

// P7.1: texts that aren't Right, or too long, in each field that is one.
func TestP7_1Texts(t *testing.T) {
	for _, c := range []struct {
		s                  string
		text, name, filter bool
	}{
		{"a", true, true, true}, {"é€😀", true, true, true}, {full, true, true, true}, {"/", true, true, true}, {"$x", true, true, true},
		{"", true, false, false}, {"+", true, false, true}, {"a/#", true, false, true}, {"a+", true, false, false}, {"#/a", true, false, false},
		{"$share/g/a", true, true, true}, {"$share/g/#", true, false, true}, {"$share//a", true, true, false}, {"$share/g", true, true, false}, {"$share/+/a", true, false, false},
		{full + "a", false, false, false}, {"a\x00", false, false, false}, {"\xFF", false, false, false}, {"\xC0\x80", false, false, false}, {"\xED\xA0\x80", false, false, false}, {full[1:] + "\xC3", false, false, false},
	} {
		for _, v := range versions {
			asked(t, v, pack{Kind: api.Connect, Clean: true, Client: c.s}, c.text)
			asked(t, v, pack{Kind: api.Connect, Clean: true, HasUser: true, User: c.s}, c.text)
			asked(t, v, pack{Kind: api.Connect, Clean: true, HasWill: true, WillTopic: c.s}, c.name)
			asked(t, v, pack{Kind: api.Publish, Topic: c.s}, c.name)
			for _, kind := range []int{api.Subscribe, api.Unsubscribe} {
				asked(t, v, pack{Kind: kind, Id: 1, Filters: fils{{c.s, 0}}}, c.filter)
				asked(t, v, pack{Kind: kind, Id: 1, Filters: fils{{c.s, 0}, {"a", 0}}}, c.filter)
				asked(t, v, pack{Kind: kind, Id: 1, Filters: fils{{"a", 0}, {"a", 0}, {c.s, 0}}}, c.filter)
			}
		}
		asked(t, api.V5, pack{Kind: api.Publish, Topic: c.s, Props: prs{alias}}, c.name || c.s == "")
	}
}

// P7.1: loads and passes are any bytes, of 65535 at most; a Publish's may be longer.
func TestP7_1Bytes(t *testing.T) {
	for _, c := range []struct {
		s    string
		want bool
	}{{"", true}, {"\xFF\x00", true}, {"+", true}, {full, true}, {full[1:] + "\xFF", true}, {full + "a", false}, {full + full, false}} {
		for _, v := range versions {
			asked(t, v, pack{Kind: api.Connect, Clean: true, HasWill: true, WillTopic: "w", WillLoad: c.s}, c.want)
			asked(t, v, pack{Kind: api.Connect, Clean: true, HasUser: true, HasPass: true, Pass: c.s}, c.want)
			asked(t, v, pack{Kind: api.Publish, Topic: "a", Load: c.s}, true)
		}
	}
}

// P7.1: a Connect's switches, all together.
func TestP7_1Connect(t *testing.T) {
	truths := []bool{false, true}
	for _, clean := range truths {
		for _, user := range truths {
			for _, pass := range truths {
				for _, client := range []string{"", "a"} {
					for _, keep := range []uint16{0, 65535} {
						p := pack{Kind: api.Connect, Clean: clean, Keep: keep, Client: client, HasUser: user, HasPass: pass}
						asked(t, api.V4, p, (user || !pass) && (clean || client == "a"))
						asked(t, api.V5, p, true)
					}
				}
			}
		}
	}
}

// P7.1: a will's QoS.
func TestP7_1WillQoS(t *testing.T) {
	for qos := range 256 {
		for _, v := range versions {
			for _, retain := range []bool{false, true} {
				p := pack{Kind: api.Connect, Clean: true, HasWill: true, WillTopic: "w", WillQoS: uint8(qos), WillRetain: retain}
				asked(t, v, p, qos <= 2)
			}
		}
	}
}

// P7.1: codes of each kind that has one.
func TestP7_1Codes(t *testing.T) {
	for code := range 256 {
		c := uint8(code)
		for _, v := range versions {
			asked(t, v, pack{Kind: api.Connack, Code: c}, reason.Known(v, api.Connack, c))
			asked(t, v, pack{Kind: api.Connack, Code: c, Present: true}, code == 0)
			for kind := api.Puback; kind <= api.Pubcomp; kind++ {
				asked(t, v, pack{Kind: kind, Id: 1, Code: c}, reason.Known(v, kind, c))
				asked(t, v, pack{Kind: kind, Id: 65535, Code: c}, reason.Known(v, kind, c))
				asked(t, v, pack{Kind: kind, Id: 0, Code: c}, false)
			}
			asked(t, v, pack{Kind: api.Disconnect, Code: c}, reason.Known(v, api.Disconnect, c))
			for _, l := range [][]uint8{{c}, {c, 0}, {0, c}, {0, 0, c, 0}} {
				asked(t, v, pack{Kind: api.Suback, Id: 1, Codes: l}, reason.Known(v, api.Suback, c))
				asked(t, v, pack{Kind: api.Unsuback, Id: 1, Codes: l}, v == api.V5 && reason.Known(v, api.Unsuback, c))
			}
		}
	}
}

// P7.1: a Publish's QoS, Dup, Id and topic, all together.
func TestP7_1Publish(t *testing.T) {
	for qos := range 256 {
		for _, dup := range []bool{false, true} {
			for _, id := range []uint16{0, 1, 256, 65535} {
				for _, topic := range []string{"", "a"} {
					for _, l := range []prs{nil, {alias}, {{Id: 38}}} {
						p := pack{Kind: api.Publish, Dup: dup, QoS: uint8(qos), Id: id, Topic: topic, Props: l, Retain: id == 256}
						want := qos == 0 && !dup && id == 0 || (qos == 1 || qos == 2) && id != 0
						asked(t, api.V4, p, want && topic == "a" && l == nil)
						asked(t, api.V5, p, want && (topic == "a" || len(l) == 1 && l[0] == alias))
					}
				}
			}
		}
	}
}

// P7.1: what asks, or is an answer, has a number.
func TestP7_1Numbers(t *testing.T) {
	for _, v := range versions {
		for kind := api.Puback; kind <= api.Unsuback; kind++ {
			p := plain(t, v, kind)
			for _, id := range []uint16{1, 2, 255, 256, 65535} {
				asked(t, v, with(p, "Id", id), true)
			}
			asked(t, v, with(p, "Id", uint16(0)), false)
		}
	}
}

// wanted says whether a Subscribe's filter may have these bits.
func wanted(version int, opt int, shared bool) bool {
	if opt&1 != 0 && opt&2 != 0 {
		return false
	}
	if version == api.V4 {
		return opt < 3
	}
	both, spare, notOwn := opt&16 != 0 && opt&32 != 0, opt&64 != 0 || opt&128 != 0, opt&4 != 0
	return !both && !spare && !(notOwn && shared)
}

// P7.1: how a filter is wanted, by each byte.
func TestP7_1Opts(t *testing.T) {
	for opt := range 256 {
		for _, c := range []struct {
			s      string
			shared bool
		}{{"a", false}, {"#", false}, {"$share", false}, {"$x/g/a", false}, {"a/$share/g/a", false}, {"$share/g/a", true}, {"$share/g/+/#", true}} {
			for _, v := range versions {
				f := packet.Filter{Text: c.s, Opt: uint8(opt)}
				for _, l := range []fils{{f}, {{"b", 0}, f}, {f, {"b", 0}}} {
					asked(t, v, pack{Kind: api.Subscribe, Id: 1, Filters: l}, wanted(v, opt, c.shared))
					asked(t, v, pack{Kind: api.Unsubscribe, Id: 1, Filters: l}, opt == 0)
				}
			}
		}
	}
}

// P7.1: 1 to 1024 filters and codes, and not one more; each of them counts.
func TestP7_1Many(t *testing.T) {
	for _, n := range []int{0, 1, 2, 1023, 1024, 1025, 2048, 1 << 16} {
		want := n >= 1 && n <= 1024
		for _, v := range versions {
			filters, codes := slices.Repeat(fils{{"a", 0}}, n), make([]uint8, n)
			asked(t, v, pack{Kind: api.Subscribe, Id: 1, Filters: filters}, want)
			asked(t, v, pack{Kind: api.Unsubscribe, Id: 1, Filters: filters}, want)
			asked(t, v, pack{Kind: api.Suback, Id: 1, Codes: codes}, want)
			asked(t, v, pack{Kind: api.Unsuback, Id: 1, Codes: codes}, v == api.V5 && want || v == api.V4 && n == 0)
			if !want {
				continue
			}
			filters[n-1].Text, codes[n-1] = "a#", 255
			asked(t, v, pack{Kind: api.Subscribe, Id: 1, Filters: filters}, false)
			asked(t, v, pack{Kind: api.Unsubscribe, Id: 1, Filters: filters}, false)
			asked(t, v, pack{Kind: api.Suback, Id: 1, Codes: codes}, false)
			asked(t, v, pack{Kind: api.Unsuback, Id: 1, Codes: codes}, false)
		}
	}
}

// P7.1: a Publish has 268435455 bytes behind its fixed header at most, and not one more.
func TestP7_1MostLoad(t *testing.T) {
	load := strings.Repeat("x", api.MaxVar)
	for _, c := range []struct {
		v    int
		p    pack
		head int
	}{
		{api.V4, pack{Kind: api.Publish, Topic: "a"}, 3},
		{api.V4, pack{Kind: api.Publish, Topic: "a", QoS: 1, Id: 7}, 5},
		{api.V5, pack{Kind: api.Publish, Topic: "a"}, 4},
		{api.V5, pack{Kind: api.Publish, QoS: 2, Id: 7, Props: prs{alias}}, 8},
		{api.V5, pack{Kind: api.Publish, Topic: full, Props: prs{{Id: 9, A: full}}}, 2 + 65535 + 3 + 3 + 65535},
	} {
		for _, more := range []int{-1, 0, 1} {
			c.p.Load = load[:api.MaxVar-c.head+more]
			asked(t, c.v, c.p, more <= 0)
			if got := packet.Rest(c.v, c.p); got != api.MaxVar+more {
				t.Errorf("Rest of %d more: %d", more, got)
			}
		}
		c.p.Load = load
		asked(t, c.v, c.p, false)
	}
}

// P7.1: so has a Connect, of the properties of both its sections.
func TestP7_1MostProps(t *testing.T) {
	const pair = 1 + 2 + api.MaxText + 2 + api.MaxText
	p := pack{Kind: api.Connect, HasWill: true, WillTopic: "w"}
	p.Props = slices.Repeat(prs{{Id: 38, A: full, B: full}}, api.MaxProps)
	p.WillProps = slices.Clone(p.Props)
	over := 10 + 4 + api.MaxProps*pair + 2 + 4 + api.MaxProps*pair + 3 + 2 - api.MaxVar
	if got := packet.Rest(api.V5, p); got != api.MaxVar+over {
		t.Errorf("Rest: %d", got)
	}
	asked(t, api.V5, p, false)
	for _, more := range []int{-1, 0, 1} {
		p.WillProps[7].B = full[over-more:]
		asked(t, api.V5, p, more <= 0)
		if got := packet.Rest(api.V5, p); got != api.MaxVar+more {
			t.Errorf("Rest of %d more: %d", more, got)
		}
	}
}

// P7.1: Rest where sections' own numbers grow.
func TestP7_1RestOfSections(t *testing.T) {
	for _, n := range []int{5, 127, 128, 16383, 16384, 65535} {
		l := prs{{Id: 38, A: full[:n-5]}}
		size := len(props.Put(nil, l))
		for kind, head := range map[int]int{api.Connect: 10 + 2, api.Connack: 2, api.Puback: 3, api.Pubrec: 3, api.Pubrel: 3, api.Pubcomp: 3, api.Disconnect: 1} {
			p := pack{Kind: kind, Props: l}
			if kind != api.Connect && kind != api.Connack && kind != api.Disconnect {
				p.Id = 1
			}
			asked(t, api.V5, p, true)
			if got := packet.Rest(api.V5, p); got != head+size {
				t.Errorf("Rest of kind %d, %d: %d, want %d", kind, n, got, head+size)
			}
		}
	}
}

// P7.1: the same are those of which each field is the same.
func TestP7_1Same(t *testing.T) {
	for i, a := range may {
		for j, b := range may {
			if packet.Same(a.p, b.p) != (i == j) {
				t.Errorf("Same(%+v, %+v): %t", short(a.p), short(b.p), i != j)
			}
		}
	}
	for _, c := range may {
		for _, field := range append(fields(), "Kind") {
			for _, value := range values[field] {
				q := with(c.p, field, value)
				same := reflect.DeepEqual(reflect.ValueOf(c.p).FieldByName(field).Interface(), value)
				if packet.Same(c.p, q) != same || packet.Same(q, c.p) != same || !packet.Same(q, q) {
					t.Errorf("Same(%+v, %+v): %t", short(c.p), short(q), !same)
				}
			}
		}
	}
}

// P7.1: lists are the same one by one, in order, wherever they lie.
func TestP7_1SameLists(t *testing.T) {
	a, b, c := prop.Prop{Id: 38, A: "a"}, prop.Prop{Id: 38, B: "a"}, prop.Prop{Id: 38, A: "a", N: 1}
	f, g, h := packet.Filter{Text: "a"}, packet.Filter{Text: "b"}, packet.Filter{Text: "a", Opt: 1}
	for _, x := range []struct {
		i, j []int
		want bool
	}{
		{nil, nil, true}, {[]int{0}, []int{0}, true}, {[]int{0, 1, 2}, []int{0, 1, 2}, true}, {nil, []int{0}, false}, {[]int{0}, []int{1}, false}, {[]int{0}, []int{2}, false},
		{[]int{0, 1}, []int{1, 0}, false}, {[]int{0}, []int{0, 0}, false}, {[]int{0, 1}, []int{0}, false}, {[]int{0, 0, 1}, []int{0, 0, 2}, false},
	} {
		var p, q [4]pack
		for _, i := range x.i {
			p[0].Props, p[1].WillProps = append(p[0].Props, prs{a, b, c}[i]), append(p[1].WillProps, prs{a, b, c}[i])
			p[2].Filters, p[3].Codes = append(p[2].Filters, fils{f, g, h}[i]), append(p[3].Codes, uint8(i))
		}
		for _, i := range x.j {
			q[0].Props, q[1].WillProps = append(q[0].Props, prs{a, b, c}[i]), append(q[1].WillProps, prs{a, b, c}[i])
			q[2].Filters, q[3].Codes = append(q[2].Filters, fils{f, g, h}[i]), append(q[3].Codes, uint8(i))
		}
		for k := range p {
			if packet.Same(p[k], q[k]) != x.want || packet.Same(q[k], p[k]) != x.want {
				t.Errorf("Same(%+v, %+v): %t", short(p[k]), short(q[k]), !x.want)
			}
		}
	}
}

// P7.1: kinds' names.
func TestP7_1Name(t *testing.T) {
	all := strings.Split("connect, connack, publish, puback, pubrec, pubrel, pubcomp, subscribe, suback, unsubscribe, unsuback, pingreq, pingresp, disconnect, auth", ", ")
	for i, want := range all {
		if got := packet.Name(i + 1); got != want {
			t.Errorf("Name(%d): %q", i+1, got)
		}
	}
	for _, kind := range []int{math.MinInt, -15, -1, 0, 16, 17, 256 + 1, 1<<32 + 1, math.MaxInt} {
		if got := packet.Name(kind); got != "" {
			t.Errorf("Name(%d): %q", kind, got)
		}
	}
}

// roomy answers a list with spare room, and the whole of that.
func roomy[T any](l []T, spare T) ([]T, []T) {
	whole := append(slices.Clone(l), spare, spare, spare)
	return whole[:len(l)], whole
}

// P7.2: what is handed in isn't changed, its spare room neither.
func TestP7_2NotChanged(t *testing.T) {
	for _, c := range may {
		p := c.p
		var filters fils
		var codes []uint8
		var own, will prs
		p.Filters, filters = roomy(p.Filters, packet.Filter{Text: "z", Opt: 9})
		p.Codes, codes = roomy(p.Codes, 9)
		p.Props, own = roomy(p.Props, prop.Prop{Id: 9, A: "z"})
		p.WillProps, will = roomy(p.WillProps, prop.Prop{Id: 9, A: "y"})
		before := []any{slices.Clone(filters), slices.Clone(codes), slices.Clone(own), slices.Clone(will)}
		for _, v := range []int{api.V4, api.V5, 0} {
			packet.Right(v, p)
			packet.Rest(v, p)
			packet.Same(p, p)
			packet.Same(p, c.p)
		}
		if !reflect.DeepEqual(before, []any{filters, codes, own, will}) || !packet.Same(p, c.p) {
			t.Errorf("%+v: changed", short(c.p))
		}
	}
}

// P7.2: what is handed in isn't kept: an answer hangs on the lists as they are then.
func TestP7_2NotKept(t *testing.T) {
	p := pack{Kind: api.Subscribe, Id: 1, Filters: fils{{"a", 0}}, Props: prs{{Id: 11, N: 1}}}
	asked(t, api.V5, p, true)
	p.Filters[0].Text = "a#"
	asked(t, api.V5, p, false)
	p.Filters[0].Text = "abc"
	asked(t, api.V5, p, true)
	if got := packet.Rest(api.V5, p); got != 2+3+6 {
		t.Errorf("Rest: %d", got)
	}
	p.Props[0].N = 0
	asked(t, api.V5, p, false)
	q := pack{Kind: api.Suback, Id: 1, Codes: []uint8{0}}
	r := pack{Kind: api.Suback, Id: 1, Codes: []uint8{0}}
	if asked(t, api.V4, q, true); !packet.Same(q, r) {
		t.Error("not the same")
	}
	q.Codes[0] = 3
	if asked(t, api.V4, q, false); packet.Same(q, r) {
		t.Error("the same")
	}
}

// P1: calls end, and none panics, of packets that may not be; they answer the same again.
func TestP1Ends(t *testing.T) {
	long := strings.Repeat("\xFF", 1<<20)
	many := slices.Repeat(prs{{Id: 38, A: long}, {}, {Id: 33, N: math.MaxUint32}}, 1000)
	for kind := -2; kind < 20; kind++ {
		for _, v := range []int{math.MinInt, 0, 3, 4, 5, 6, math.MaxInt} {
			p := pack{
				Kind: kind, Dup: true, Retain: true, QoS: 255, Id: 65535, Clean: true, Keep: 65535, Client: long, HasWill: true, HasUser: true, HasPass: true,
				WillQoS: 255, WillRetain: true, WillProps: many, WillTopic: long, WillLoad: long, User: long, Pass: long, Present: true, Code: 255,
				Topic: long, Load: long, Filters: slices.Repeat(fils{{long, 255}, {}}, 1000), Codes: slices.Repeat([]uint8{255}, 1<<16), Props: many,
			}
			asked(t, v, p, false)
			asked(t, v, pack{Kind: kind, Filters: p.Filters, Codes: p.Codes, Props: p.Props}, false)
			if packet.Rest(v, p) != packet.Rest(v, p) || packet.Rest(v, pack{Kind: kind}) != packet.Rest(v, pack{Kind: kind}) {
				t.Error("Rest answers otherwise again")
			}
		}
	}
}
