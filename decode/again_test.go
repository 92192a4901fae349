package decode_test

import (
	"bytes"
	"math/rand"
	"slices"
	"strings"
	"testing"

	"pouch/api"
	"pouch/decode"
	"pouch/encode"
	"pouch/packet"
	"pouch/prop"
	"pouch/reason"
)

// maker makes packets that may be, of a version.
type maker struct {
	*rand.Rand
	version int
}

func (m maker) bit() bool { return m.Intn(2) == 0 }

func (m maker) text() string {
	s := strings.Repeat([]string{"a", "b/", "é", "€", "😀", "\x01", "$", " "}[m.Intn(8)], m.Intn(4))
	if m.Intn(40) == 0 {
		s = strings.Repeat("x", []int{126, 127, 128, 255, 256, 16384, api.MaxText}[m.Intn(7)])
	}
	return s
}

func (m maker) name() string {
	if s := m.text(); s != "" {
		return s
	}
	return "/"
}

func (m maker) bytes() string {
	return m.text() + []string{"", "\x00", "\xFF\x80", "+#"}[m.Intn(4)]
}

func (m maker) filter() string {
	return []string{"", "+/", "$share/g/"}[m.Intn(3)] + []string{"a", "b/c", "+", "#", "a/#", "/"}[m.Intn(6)]
}

func (m maker) number() uint32 {
	return []uint32{1, 1, 2, 127, 128, 255, 256, 16384, 65535, 65536, 2097152, api.MaxVar, 1<<32 - 1, m.Uint32()}[m.Intn(14)]
}

// props makes properties that the kind may have.
func (m maker) props(kind int) prs {
	if m.version == api.V4 {
		return nil
	}
	var l prs
	for id := range 256 {
		for range 3 {
			p := m.prop(uint8(id))
			if prop.For(p.Id, kind) && prop.Value(p) && m.Intn(4) == 0 {
				l = append(l, p)
			}
			if !prop.Often(p.Id, kind) {
				break
			}
		}
	}
	says := func(p prop.Prop) bool { return p.Id == 21 }
	if i := slices.IndexFunc(l, func(p prop.Prop) bool { return p.Id == 22 }); i >= 0 && !slices.ContainsFunc(l, says) {
		l = slices.Delete(l, i, i+1)
	}
	if kind == api.Auth && !slices.ContainsFunc(l, says) {
		l = slices.Insert(l, 0, method)
	}
	return l
}

func (m maker) prop(id uint8) prop.Prop {
	switch prop.Type(id) {
	case prop.Byte:
		return prop.Prop{Id: id, N: uint32(m.Intn(2))}
	case prop.Two, prop.Four, prop.Var:
		return prop.Prop{Id: id, N: m.number()}
	case prop.Text:
		return prop.Prop{Id: id, A: m.text()}
	case prop.Bin:
		return prop.Prop{Id: id, A: m.bytes()}
	case prop.Pair:
		return prop.Prop{Id: id, A: m.text(), B: m.text()}
	}
	return prop.Prop{Id: id}
}

func (m maker) code(kind int) uint8 {
	all := reason.All(m.version, kind)
	if m.bit() {
		return all[0]
	}
	return all[m.Intn(len(all))]
}

func (m maker) packet() pack {
	p := pack{Kind: 1 + m.Intn(10+m.version)}
	p.Props = m.props(p.Kind)
	switch p.Kind {
	case api.Connect:
		m.connect(&p)
	case api.Connack:
		p.Code = m.code(p.Kind)
		p.Present = p.Code == 0 && m.bit()
	case api.Publish:
		p.QoS, p.Retain, p.Topic, p.Load = uint8(m.Intn(3)), m.bit(), m.name(), m.bytes()
		if p.QoS > 0 {
			p.Dup, p.Id = m.bit(), uint16(1+m.Intn(api.MaxId))
		}
	case api.Puback, api.Pubrec, api.Pubrel, api.Pubcomp:
		p.Id, p.Code = uint16(1+m.Intn(api.MaxId)), m.code(p.Kind)
	case api.Subscribe, api.Unsubscribe:
		p.Id = uint16(1 + m.Intn(api.MaxId))
		for range 1 + m.Intn(4) {
			f := packet.Filter{Text: m.filter()}
			if p.Kind == api.Subscribe {
				f.Opt = uint8(m.Intn(3))
			}
			p.Filters = append(p.Filters, f)
		}
	case api.Suback, api.Unsuback:
		p.Id = uint16(1 + m.Intn(api.MaxId))
		for range 1 + m.Intn(4) {
			if len(reason.All(m.version, p.Kind)) > 0 {
				p.Codes = append(p.Codes, m.code(p.Kind))
			}
		}
	case api.Disconnect, api.Auth:
		p.Code = m.code(p.Kind)
	}
	return p
}

func (m maker) connect(p *pack) {
	p.Clean, p.Keep, p.Client = m.bit(), uint16(m.Uint32()), m.name()
	if p.HasWill = m.bit(); p.HasWill {
		p.WillQoS, p.WillRetain, p.WillProps = uint8(m.Intn(3)), m.bit(), m.props(api.Will)
		p.WillTopic, p.WillLoad = m.name(), m.bytes()
		p.WillLoad = p.WillLoad[:min(len(p.WillLoad), api.MaxText)]
	}
	if p.HasUser = m.bit(); p.HasUser {
		p.User = m.text()
	}
	if p.HasPass = p.HasUser && m.bit(); p.HasPass {
		p.Pass = m.bytes()
		p.Pass = p.Pass[:min(len(p.Pass), api.MaxText)]
	}
}

// made answers packets that may be, by a number that stays the same.
func made(t *testing.T, version, count int) []pack {
	t.Helper()
	m := maker{rand.New(rand.NewSource(int64(version))), version}
	var l []pack
	kinds := map[int]int{}
	for range count {
		p := m.packet()
		if packet.Right(version, p) {
			l = append(l, p)
			kinds[p.Kind]++
		}
	}
	for kind := api.Connect; kind <= 10+version; kind++ {
		if kinds[kind] < count/50 {
			t.Errorf("%d: just %d of kind %d", version, kinds[kind], kind)
		}
	}
	return l
}

// P9.2: what is encoded is decoded as it was.
func TestP9_2AsItWas(t *testing.T) {
	for _, version := range versions {
		for _, p := range made(t, version, 5000) {
			b, err := encode.Encode(version, p)
			if err != api.OK || len(b) != encode.Size(version, p) {
				t.Fatalf("%s: %d", told(p), err)
			}
			q, err := decode.Decode(version, b)
			if err != api.OK || !packet.Same(p, q) {
				t.Fatalf("%.60x: %s, %d, was %s", b, told(q), err, told(p))
			}
			form, ok := decode.Form(version, b)
			if !ok || !packet.Same(p, form) {
				t.Fatalf("Form of %.60x: %s, %t, was %s", b, told(form), ok, told(p))
			}
			h, err := decode.Head(b)
			if err != api.OK || h.Kind != p.Kind || h.Flags != encode.Flags(p) || h.Rest != packet.Rest(version, p) || h.Head+h.Rest != len(b) {
				t.Fatalf("Head of %.60x: %v, %d", b, h, err)
			}
		}
	}
}

// P9.2: as much as there may be of a list, a text or the whole is decoded as it was.
func TestP9_2Edges(t *testing.T) {
	for _, p := range []pack{
		{Kind: api.Subscribe, Id: 1, Filters: slices.Repeat(fils{{Text: full, Opt: 2}}, api.MaxList)},
		{Kind: api.Suback, Id: 1, Codes: slices.Repeat([]uint8{128}, api.MaxList)},
		{Kind: api.Publish, Topic: full, Load: strings.Repeat("\xFF", api.MaxVar-2-api.MaxText-1)},
		{Kind: api.Connect, Client: full, HasWill: true, WillTopic: full, WillLoad: full, HasUser: true, User: full, HasPass: true, Pass: full},
		{Kind: api.Disconnect, Props: slices.Repeat(prs{{Id: 38, A: full, B: full}}, api.MaxProps)},
	} {
		for _, version := range versions {
			if version == api.V4 && len(p.Props) > 0 {
				continue
			}
			b, err := encode.Encode(version, p)
			if err != api.OK {
				t.Errorf("%d, %s: %d", version, packet.Name(p.Kind), err)
			}
			if q, err := decode.Decode(version, b); err != api.OK || !packet.Same(p, q) {
				t.Errorf("%d, %s: %d", version, packet.Name(p.Kind), err)
			}
		}
	}
}

// P9.3: of bytes that differ from a packet's by little: what is decoded, encoded, decoded again is the same.
func TestP9_3Changed(t *testing.T) {
	random := rand.New(rand.NewSource(3))
	edges := []byte{0, 1, 2, 3, 4, 127, 128, 255}
	for _, version := range versions {
		decoded := 0
		for _, p := range made(t, version, 1000) {
			b, _ := encode.Encode(version, p)
			if len(b) > 2000 {
				continue
			}
			for range 30 {
				c := bytes.Clone(b)
				for range 1 + random.Intn(2) {
					c[random.Intn(len(c))] = edges[random.Intn(len(edges))]
				}
				p, err := decode.Decode(version, c)
				if err != api.OK {
					continue
				}
				decoded++
				again, err := encode.Encode(version, p)
				q, wrong := decode.Decode(version, again)
				if err != api.OK || wrong != api.OK || !packet.Same(p, q) || len(again) > len(c) {
					t.Fatalf("%.60x, %d: %.60x, %d; %d", c, version, again, err, wrong)
				}
			}
		}
		if decoded < 1000 {
			t.Errorf("%d: just %d decoded", version, decoded)
		}
	}
}

// P9.3: properties in any order are those in order, those of one id as they stood.
func TestP9_3Orders(t *testing.T) {
	random := rand.New(rand.NewSource(4))
	parts := []string{"\x01\x01", "\x02\x00\x00\x00\x09", "\x03\x00\x01t", "\x08\x00\x01r", "\x09\x00\x01\xFF", "\x0B\x07", "\x0B\x80\x01", "\x23\x00\x02", "\x26\x00\x01k\x00\x01v", "\x26\x00\x00\x00\x00", "\x26\x00\x01k\x00\x01v"}
	want := prs{{Id: 1, N: 1}, {Id: 2, N: 9}, {Id: 3, A: "t"}, {Id: 8, A: "r"}, {Id: 9, A: "\xFF"}, {Id: 11, N: 7}, {Id: 11, N: 128}, {Id: 35, N: 2}, {Id: 38, A: "k", B: "v"}, {Id: 38}, {Id: 38, A: "k", B: "v"}}
	size := len(strings.Join(parts, ""))
	plain := whole(0x30, "\x00\x01a"+string([]byte{byte(size)})+strings.Join(parts, "")+"x")
	for range 300 {
		order := random.Perm(len(parts))
		var section string
		var l prs
		for _, i := range order {
			section += parts[i]
			l = append(l, want[i])
		}
		slices.SortStableFunc(l, func(p, q prop.Prop) int { return int(p.Id) - int(q.Id) })
		b := whole(0x30, "\x00\x01a"+string([]byte{byte(size)})+section+"x")
		taken(t, api.V5, b, pack{Kind: api.Publish, Topic: "a", Props: l, Load: "x"}, api.OK)
		p, _ := decode.Decode(api.V5, []byte(b))
		again, err := encode.Encode(api.V5, p)
		if err != api.OK || len(again) != len(plain) || slices.Equal(l, want) && string(again) != plain {
			t.Fatalf("%x: encoded again %x, %d", b, again, err)
		}
		if q, err := decode.Decode(api.V5, again); err != api.OK || !packet.Same(p, q) {
			t.Fatalf("%x: decoded again %s, %d", again, told(q), err)
		}
	}
}

// P9.4: no beginning of a packet's bytes is decoded, and none with more behind.
func TestP9_4Cut(t *testing.T) {
	for _, version := range versions {
		for _, p := range made(t, version, 1500) {
			b, _ := encode.Encode(version, p)
			for n := range b {
				if n > 300 && n < len(b)-3 {
					continue
				}
				if q, ok := decode.Form(version, b[:n]); ok || !packet.Same(q, pack{}) {
					t.Fatalf("Form of %d bytes of %.60x, %d", n, b, version)
				}
				if q, err := decode.Decode(version, b[:n]); err != api.ErrMalformed || !packet.Same(q, pack{}) {
					t.Fatalf("Decode of %d bytes of %.60x, %d: %d", n, b, version, err)
				}
			}
			for _, more := range []string{"\x00", "\xFF", "\x00\x00", "\xC0\x00", string(b)} {
				c := append(bytes.Clone(b), more...)
				if _, ok := decode.Form(version, c); ok {
					t.Fatalf("Form of %.60x and %x behind, %d", b, more[:1], version)
				}
				if _, err := decode.Decode(version, c); err != api.ErrMalformed {
					t.Fatalf("Decode of %.60x and %x behind, %d: %d", b, more[:1], version, err)
				}
			}
		}
	}
}

// P9.5: bytes that are handed in aren't changed, nor their spare room, and what was answered hangs on them no more.
func TestP9_5HandedIn(t *testing.T) {
	for _, c := range forms {
		room := []byte(whole(c.first, c.rest) + "spare")
		n := len(room) - len("spare")
		before := bytes.Clone(room)
		decode.Head(room[:n])
		form, _ := decode.Form(c.version, room[:n])
		p, err := decode.Decode(c.version, room[:n])
		if !bytes.Equal(room, before) {
			t.Errorf("%x is changed: %x", before, room)
		}
		for i := range room {
			room[i] ^= 0x55
		}
		if err != api.OK || !packet.Same(p, c.p) || !packet.Same(form, c.p) {
			t.Errorf("%x: the packet hangs on its bytes: %s, %s", before, told(p), told(form))
		}
	}
}

// spoil changes all lists of a packet, to their last spare places.
func spoil(p pack) {
	for _, l := range []prs{p.Props, p.WillProps} {
		clear(l[:cap(l)])
	}
	for i := range p.Filters[:cap(p.Filters)] {
		p.Filters[:cap(p.Filters)][i] = packet.Filter{Text: "spoilt", Opt: 9}
	}
	for i := range p.Codes[:cap(p.Codes)] {
		p.Codes[:cap(p.Codes)][i] = 99
	}
}

// P9.5: each answer is new memory, and no two lists of one share any.
func TestP9_5NewMemory(t *testing.T) {
	for _, c := range forms {
		b := []byte(whole(c.first, c.rest))
		before := bytes.Clone(b)
		p, _ := decode.Decode(c.version, b)
		q, _ := decode.Decode(c.version, b)
		form, _ := decode.Form(c.version, b)
		spoil(p)
		again, err := decode.Decode(c.version, b)
		if err != api.OK || !packet.Same(q, c.p) || !packet.Same(form, c.p) || !packet.Same(again, c.p) || !bytes.Equal(b, before) {
			t.Errorf("%x: answers share memory", b)
		}
		spoil(pack{Props: q.Props})
		q.Props = c.p.Props
		if !packet.Same(q, c.p) {
			t.Errorf("%x: lists of one answer share memory", b)
		}
	}
}
