package decode_test

import (
	"slices"
	"testing"

	"pouch/api"
	"pouch/decode"
	"pouch/encode"
	"pouch/packet"
	"pouch/prop"
	"pouch/text"
)

// deriv is bytes that the document's grammar has, and their packet; plain: its properties stand in order, and its code is the short one.
type deriv struct {
	b     string
	p     pack
	plain bool
}

// way is a field's bytes, and what they say.
type way struct {
	b     string
	set   func(p *pack)
	plain bool
}

// grammar derives all bytes behind a fixed header, of so many at most, of a few that are at the edges.
type grammar struct {
	version int
	signs   []byte
	most    int
	strings [][]string
}

func newGrammar(version, most int, signs ...byte) *grammar {
	g := &grammar{version: version, signs: signs, most: most, strings: [][]string{{""}}}
	for n := range most {
		var l []string
		for _, s := range g.strings[n] {
			for _, c := range signs {
				l = append(l, s+string([]byte{c}))
			}
		}
		g.strings = append(g.strings, l)
	}
	return g
}

// then lays a field behind each of l.
func (g *grammar) then(l []deriv, ways func(p pack, room int) []way) []deriv {
	var out []deriv
	for _, d := range l {
		for _, w := range ways(d.p, g.most-len(d.b)) {
			if len(d.b)+len(w.b) > g.most {
				continue
			}
			q := deriv{b: d.b + w.b, p: d.p, plain: d.plain && w.plain}
			if w.set != nil {
				w.set(&q.p)
			}
			out = append(out, q)
		}
	}
	return out
}

func (g *grammar) one(set func(p *pack, n uint8)) func(pack, int) []way {
	return func(pack, int) []way {
		var l []way
		for _, c := range g.signs {
			l = append(l, way{string([]byte{c}), func(p *pack) { set(p, c) }, true})
		}
		return l
	}
}

func (g *grammar) id(pack, int) []way {
	var l []way
	for _, c := range g.signs {
		for _, d := range g.signs {
			l = append(l, way{string([]byte{c, d}), func(p *pack) { p.Id = uint16(c)<<8 + uint16(d) }, true})
		}
	}
	return l
}

// rest is all strings that there is room for.
func (g *grammar) rest(set func(p *pack, s string)) func(pack, int) []way {
	return func(_ pack, room int) []way {
		var l []way
		for n := range room + 1 {
			for _, s := range g.strings[n] {
				l = append(l, way{s, func(p *pack) { set(p, s) }, true})
			}
		}
		return l
	}
}

// bins are all Bins that there is room for; right: of texts alone.
func (g *grammar) bins(room int, right bool) []string {
	var l []string
	for n := range room - 1 {
		for _, s := range g.strings[n] {
			if !right || text.Right(s) {
				l = append(l, s)
			}
		}
	}
	return l
}

func (g *grammar) bin(right bool, set func(p *pack, s string)) func(pack, int) []way {
	return func(_ pack, room int) []way {
		var l []way
		for _, s := range g.bins(room, right) {
			l = append(l, way{laid(s), func(p *pack) { set(p, s) }, true})
		}
		return l
	}
}

// piece is properties, and their bytes.
type piece struct {
	b string
	l prs
}

// properties are all single ones that there is room for.
func (g *grammar) properties(room int) []piece {
	var l []piece
	add := func(id byte, b string, p prop.Prop) {
		p.Id = id
		if 1+len(b) <= room {
			l = append(l, piece{string([]byte{id}) + b, prs{p}})
		}
	}
	for _, id := range g.signs {
		switch kind := prop.Type(id); kind {
		case prop.Byte, prop.Two, prop.Four:
			size := 1 << (kind - 1)
			if size >= room {
				continue
			}
			for _, s := range g.strings[size] {
				n := uint32(0)
				for _, c := range []byte(s) {
					n = n*256 + uint32(c)
				}
				add(id, s, prop.Prop{N: n})
			}
		case prop.Var:
			for size := 1; size <= 4 && size < room; size++ {
				for _, s := range g.strings[size] {
					if h, err := headOf([]byte("\x00" + s)); err == api.OK && h.Head == 1+size {
						add(id, s, prop.Prop{N: uint32(h.Rest)})
					}
				}
			}
		case prop.Text, prop.Bin:
			for _, a := range g.bins(room-1, kind == prop.Text) {
				add(id, laid(a), prop.Prop{A: a})
			}
		case prop.Pair:
			for _, a := range g.bins(room-1, true) {
				for _, b := range g.bins(room-3-len(a), true) {
					add(id, laid(a)+laid(b), prop.Prop{A: a, B: b})
				}
			}
		}
	}
	return l
}

// pieces are all properties, one behind the other, that there is room for.
func (g *grammar) pieces(room int) []piece {
	l := []piece{{}}
	for _, first := range g.properties(room) {
		for _, behind := range g.pieces(room - len(first.b)) {
			l = append(l, piece{first.b + behind.b, append(slices.Clone(first.l), behind.l...)})
		}
	}
	return l
}

// section is all sections that there is room for.
func (g *grammar) section(set func(p *pack, l prs)) func(pack, int) []way {
	return func(_ pack, room int) []way {
		if g.version == api.V4 {
			return []way{{"", nil, true}}
		}
		var l []way
		for _, s := range g.pieces(room - 1) {
			sorted := slices.Clone(s.l)
			slices.SortStableFunc(sorted, func(p, q prop.Prop) int { return int(p.Id) - int(q.Id) })
			l = append(l, way{string([]byte{byte(len(s.b))}) + s.b, func(p *pack) { set(p, sorted) }, slices.Equal(sorted, s.l)})
		}
		return l
	}
}

func setProps(p *pack, l prs) { p.Props = l }

// shortCode is nothing, a code, or a code and a section.
func (g *grammar) shortCode(p pack, room int) []way {
	l := []way{{"", nil, true}}
	if g.version == api.V4 {
		return l
	}
	for _, c := range g.signs {
		l = append(l, way{string([]byte{c}), func(p *pack) { p.Code = c }, c != 0})
		for _, s := range g.section(setProps)(p, room-1) {
			l = append(l, way{string([]byte{c}) + s.b, func(p *pack) { p.Code = c; s.set(p) }, s.plain && len(s.b) > 1})
		}
	}
	return l
}

// filters lays none, one, two, .. behind each of l.
func (g *grammar) filters(l []deriv) []deriv {
	all := l
	for len(l) > 0 {
		kind := l[0].p.Kind
		l = g.then(l, g.bin(true, func(p *pack, s string) { p.Filters = append(slices.Clone(p.Filters), packet.Filter{Text: s}) }))
		if kind == api.Subscribe {
			l = g.then(l, g.one(func(p *pack, n uint8) {
				p.Filters = slices.Clone(p.Filters)
				p.Filters[len(p.Filters)-1].Opt = n
			}))
		}
		all = append(all, l...)
	}
	return all
}

// derive answers all bytes behind the first byte's header.
func (g *grammar) derive(first byte) []deriv {
	kind, flags := int(first/16), first%16
	l := []deriv{{p: pack{Kind: kind}, plain: true}}
	wanted := byte(0)
	if kind == api.Pubrel || kind == api.Subscribe || kind == api.Unsubscribe {
		wanted = 2
	}
	if kind != api.Publish && flags != wanted {
		return nil
	}
	switch kind {
	case api.Connack:
		l = g.then(l, func(pack, int) []way {
			return []way{{"\x00", nil, true}, {"\x01", func(p *pack) { p.Present = true }, true}}
		})
		return g.then(g.then(l, g.one(func(p *pack, n uint8) { p.Code = n })), g.section(setProps))
	case api.Publish:
		l[0].p.Retain, l[0].p.QoS, l[0].p.Dup = flags&1 != 0, flags>>1&3, flags&8 != 0
		l = g.then(l, g.bin(true, func(p *pack, s string) { p.Topic = s }))
		if l[0].p.QoS != 0 {
			l = g.then(l, g.id)
		}
		return g.then(g.then(l, g.section(setProps)), g.rest(func(p *pack, s string) { p.Load = s }))
	case api.Puback, api.Pubrec, api.Pubrel, api.Pubcomp:
		return g.then(g.then(l, g.id), g.shortCode)
	case api.Subscribe, api.Unsubscribe:
		return g.filters(g.then(g.then(l, g.id), g.section(setProps)))
	case api.Suback, api.Unsuback:
		l = g.then(g.then(l, g.id), g.section(setProps))
		return g.then(l, g.rest(func(p *pack, s string) { p.Codes = []uint8(s) }))
	case api.Pingreq, api.Pingresp:
		return l
	case api.Disconnect:
		return g.then(l, g.shortCode)
	case api.Auth:
		if g.version == api.V5 {
			return g.then(l, g.shortCode)
		}
	}
	return nil
}

// connect answers all bytes behind a Connect's Keep, of these flags.
func (g *grammar) connect(flags byte) []deriv {
	if flags&1 != 0 || flags&4 == 0 && flags&(8+16+32) != 0 {
		return nil
	}
	p := pack{Kind: api.Connect, Keep: 0x0102, Clean: flags&2 != 0, HasWill: flags&4 != 0, WillQoS: flags >> 3 & 3, WillRetain: flags&32 != 0, HasPass: flags&64 != 0, HasUser: flags&128 != 0}
	l := g.then([]deriv{{p: p, plain: true}}, g.section(setProps))
	l = g.then(l, g.bin(true, func(p *pack, s string) { p.Client = s }))
	if p.HasWill {
		l = g.then(l, g.section(func(p *pack, l prs) { p.WillProps = l }))
		l = g.then(l, g.bin(true, func(p *pack, s string) { p.WillTopic = s }))
		l = g.then(l, g.bin(false, func(p *pack, s string) { p.WillLoad = s }))
	}
	if p.HasUser {
		l = g.then(l, g.bin(true, func(p *pack, s string) { p.User = s }))
	}
	if p.HasPass {
		l = g.then(l, g.bin(false, func(p *pack, s string) { p.Pass = s }))
	}
	return l
}

// compare holds what is decoded, of all bytes behind start, and of those derived, against the grammar.
func (g *grammar) compare(t *testing.T, start func(rest int) string, derived []deriv) (int, int) {
	t.Helper()
	of := map[string]deriv{}
	right := 0
	for _, d := range derived {
		if q, there := of[d.b]; there && !packet.Same(q.p, d.p) {
			t.Fatalf("%x is two packets: %s, %s", d.b, told(q.p), told(d.p))
		}
		of[d.b] = d
		if g.check(t, start(len(d.b))+d.b, d, true) {
			right++
		}
	}
	for n := range g.most + 1 {
		for _, s := range g.strings[n] {
			if d, there := of[s]; !there {
				g.check(t, start(len(s))+s, d, false)
			}
		}
	}
	return len(of), right
}

// check says whether b is decoded to just what is derived, and is laid again; it answers whether the packet may be.
func (g *grammar) check(t *testing.T, b string, d deriv, there bool) bool {
	t.Helper()
	form, ok := decode.Form(g.version, []byte(b))
	if ok != there || !packet.Same(form, d.p) {
		t.Fatalf("Form of %x, %d: %s, %t, want %s, %t", b, g.version, told(form), ok, told(d.p), there)
	}
	p, err := decode.Decode(g.version, []byte(b))
	switch {
	case !there:
		if err != api.ErrMalformed || !packet.Same(p, pack{}) {
			t.Fatalf("Decode of %x, %d: %s, %d", b, g.version, told(p), err)
		}
		return false
	case !packet.Right(g.version, d.p):
		if err != api.ErrProtocol || !packet.Same(p, pack{}) {
			t.Fatalf("Decode of %x, %d: %s, %d", b, g.version, told(p), err)
		}
		return false
	case err != api.OK || !packet.Same(p, d.p):
		t.Fatalf("Decode of %x, %d: %s, %d, want %s", b, g.version, told(p), err, told(d.p))
	}
	again, err := encode.Encode(g.version, p)
	if err != api.OK || (string(again) == b) != d.plain {
		t.Fatalf("%x, %d: encoded again %x, %d, plain %t", b, g.version, again, err, d.plain)
	}
	if q, err := decode.Decode(g.version, again); err != api.OK || !packet.Same(p, q) {
		t.Fatalf("%x, %d: decoded again %s, %d, want %s", b, g.version, told(q), err, told(p))
	}
	return true
}

// P9.1, P9.3, P4: of all bytes, up to so many of some at the edges, each is decoded to the one packet that the grammar has of it, or to none.
func TestP9_1Grammar(t *testing.T) {
	t.Parallel()
	all, right := 0, 0
	for _, version := range versions {
		for _, g := range []*grammar{
			newGrammar(version, 6, 0, 1, 2, 3, 11, 128),
			newGrammar(version, 5, 0, 1, 9, 0x1F, 35, 'a', 0x80, 0xC3, 0xFF),
			newGrammar(version, 8, 0, 5, 0x26, 'a'),
		} {
			for _, first := range []byte{0x00, 0x20, 0x30, 0x33, 0x36, 0x3C, 0x40, 0x50, 0x62, 0x70, 0x82, 0x90, 0xA0, 0xA2, 0xB0, 0xC0, 0xD0, 0xE0, 0xF0} {
				n, m := g.compare(t, func(rest int) string { return head(first, rest) }, g.derive(first))
				all, right = all+n, right+m
			}
		}
	}
	if all < 500000 || right < 50000 {
		t.Errorf("just %d derived, %d of them may be", all, right)
	}
}

// P9.1, P9.3, P4: likewise of a Connect, of all flags.
func TestP9_1GrammarOfConnect(t *testing.T) {
	t.Parallel()
	all, right := 0, 0
	for _, version := range versions {
		for _, g := range []*grammar{newGrammar(version, 12, 0, 1), newGrammar(version, 7, 0, 1, 2), newGrammar(version, 5, 0, 1, 'a', 0xFF)} {
			for flags := range 256 {
				start := func(rest int) string {
					return head(0x10, 10+rest) + "\x00\x04MQTT" + string([]byte{byte(version), byte(flags), 1, 2})
				}
				n, m := g.compare(t, start, g.connect(byte(flags)))
				all, right = all+n, right+m
			}
		}
	}
	if all < 20000 || right < 5000 {
		t.Errorf("just %d derived, %d of them may be", all, right)
	}
}
