package encode_test

import (
	"bytes"
	"slices"
	"strings"
	"testing"

	"pouch/api"
	"pouch/encode"
	"pouch/packet"
)

// each answers, for each packet and each way to set a field, the packet with it.
func each[T any](l []pack, values []T, set func(p *pack, value T)) []pack {
	var out []pack
	for _, p := range l {
		for _, value := range values {
			q := p
			set(&q, value)
			out = append(out, q)
		}
	}
	return out
}

// texts and lists are such that what stands behind one could be taken for a part of it.
var (
	texts = []string{"", "a", "\x01", "a\x01", "\x01a", "aa"}
	loads = []string{"", "\x00", "\x00\x01a", "\x00\x00", "\x01"}
	lists = []prs{nil, {{Id: 38}}, {{Id: 38, A: "a"}}, {{Id: 38, B: "a"}}, {{Id: 38}, {Id: 38}}, {{Id: 31}}, {{Id: 31, A: "a"}}, {{Id: 11, N: 1}}, {{Id: 11, N: 128}}, {alias}, {{Id: 1}}, {{Id: 1, N: 1}}, {{Id: 33, N: 1}}, {{Id: 17}}, {method}, {method, {Id: 22, A: "\x00"}}}
	codes = []uint8{0, 1, 4, 5, 16, 24, 25, 128, 146}
	wants = []fils{nil, {{Text: "a"}}, {{Text: "a", Opt: 1}}, {{Text: "a"}, {Text: "a"}}, {{Text: "a\x01"}}, {{Text: "\x01"}}, {{Text: "a"}, {Text: "\x01"}}, {{Text: "a/#", Opt: 2}, {Text: "+"}}}
	lots  = [][]uint8{nil, {0}, {1}, {0, 0}, {0, 1}, {128}, {0, 128, 0}, {17}}
)

// alike are packets of all kinds that differ by little; some may not be.
func alike() []pack {
	var all []pack
	for kind := range 17 {
		l := each([]pack{{Kind: kind}}, []uint16{0, 1, 256}, func(p *pack, id uint16) { p.Id = id })
		l = each(l, lists, func(p *pack, list prs) { p.Props = list })
		all = append(all, each(l, codes, func(p *pack, code uint8) { p.Code = code })...)
		all = append(all, each(l, wants, func(p *pack, list fils) { p.Filters = list })...)
		all = append(all, each(l, lots, func(p *pack, list []uint8) { p.Codes = list })...)
	}
	return append(append(all, alikePublishes()...), alikeConnects()...)
}

func alikePublishes() []pack {
	l := each([]pack{{Kind: api.Publish}}, lists, func(p *pack, list prs) { p.Props = list })
	l = each(l, texts, func(p *pack, s string) { p.Topic = s })
	l = each(l, loads, func(p *pack, s string) { p.Load = s })
	return each(l, []int{0, 1, 2, 3, 4, 5, 10, 11, 12, 13}, func(p *pack, flags int) {
		p.Retain, p.QoS, p.Dup = flags&1 != 0, uint8(flags>>1&3), flags&8 != 0
		if p.QoS != 0 {
			p.Id = 1
		}
	})
}

func alikeConnects() []pack {
	l := each([]pack{{Kind: api.Connect}}, lists, func(p *pack, list prs) { p.Props = list })
	l = each(l, texts[:3], func(p *pack, s string) { p.Client = s })
	l = append(l, each(l, texts, func(p *pack, s string) { p.HasUser, p.User = true, s })...)
	l = append(l, each(l, loads, func(p *pack, s string) { p.HasPass, p.Pass = true, s })...)
	l = append(l, each([]pack{{Kind: api.Connect, Client: "a"}}, []bool{false, true}, func(p *pack, so bool) { p.Clean = so })...)
	wills := each([]pack{{Kind: api.Connect, Client: "a", HasWill: true}}, texts, func(p *pack, s string) { p.WillTopic = s })
	wills = each(wills, loads, func(p *pack, s string) { p.WillLoad = s })
	wills = each(wills, lists, func(p *pack, list prs) { p.WillProps = list })
	wills = each(wills, []uint8{0, 1, 2}, func(p *pack, n uint8) { p.WillQoS = n })
	wills = each(wills, []bool{false, true}, func(p *pack, so bool) { p.WillRetain = so })
	return append(l, each(wills, []uint16{0, 1, 256}, func(p *pack, n uint16) { p.Keep = n })...)
}

// P8.2, P3: of one version, two packets have the same form just if they are the same, and no form is the beginning of another one's.
func TestP8_2NoBeginning(t *testing.T) {
	all := alike()
	for _, version := range versions {
		of := map[string]pack{}
		var forms []string
		for _, p := range all {
			b, err := encode.Encode(version, p)
			if (err == api.OK) != packet.Right(version, p) || len(b) != encode.Size(version, p) {
				t.Fatalf("%d, %+v: %d, Size %d", version, p, err, encode.Size(version, p))
			}
			if err != api.OK {
				continue
			}
			q, there := of[string(b)]
			if there && !packet.Same(p, q) {
				t.Fatalf("%d: %x is the form of %+v and of %+v", version, b, p, q)
			}
			if !there {
				of[string(b)], forms = p, append(forms, string(b))
			}
		}
		if len(forms) < 600 {
			t.Errorf("%d: just %d forms", version, len(forms))
		}
		slices.Sort(forms) // a beginning of any other one is one of the next one, too
		for i := 1; i < len(forms); i++ {
			if strings.HasPrefix(forms[i], forms[i-1]) {
				t.Fatalf("%d: %x is the beginning of %x", version, forms[i-1], forms[i])
			}
		}
	}
}

// P8.2: packets that are the same have the same form, each time.
func TestP8_2SameForm(t *testing.T) {
	for _, c := range forms {
		for _, version := range versions {
			q := c.p
			q.Props, q.WillProps = slices.Clone(q.Props), slices.Clone(q.WillProps)
			q.Filters, q.Codes = slices.Clone(q.Filters), slices.Clone(q.Codes)
			a, errA := encode.Encode(version, c.p)
			b, errB := encode.Encode(version, q)
			if !packet.Same(c.p, q) || !bytes.Equal(a, b) || errA != errB {
				t.Errorf("%d: %x, %d; %x, %d", version, a, errA, b, errB)
			}
		}
	}
}

// whole are packets with all lists, each with spare room behind.
func whole() []pack {
	props := prs{{Id: 38, A: "k"}, {Id: 38, A: "l"}, {Id: 1}, {Id: 2}}[:2]
	will := prs{{Id: 1, N: 1}, {Id: 38}, {Id: 1}, {Id: 2}}[:2]
	want := fils{{Text: "a", Opt: 1}, {Text: "b"}, {Text: "c", Opt: 9}}[:2]
	back := []uint8{0, 128, 7, 7}[:2]
	return []pack{
		{Kind: api.Connect, Client: "a", Props: props, HasWill: true, WillProps: will, WillTopic: "w"},
		{Kind: api.Subscribe, Id: 1, Props: props, Filters: want},
		{Kind: api.Suback, Id: 1, Props: props, Codes: back},
		{Kind: api.Disconnect, Props: props},
		{Kind: api.Disconnect, Props: append(props[:2:2], props[0])},
		{Kind: api.Suback, Codes: back, Props: will}, // may not be
	}
}

// P8.3: neither lists nor their spare room are changed, and what is answered hangs on them no more.
func TestP8_3HandedIn(t *testing.T) {
	for i := range whole() {
		p, before := whole()[i], whole()[i]
		b, _ := encode.Encode(api.V5, p)
		encode.Size(api.V5, p)
		encode.Flags(p)
		if !packet.Same(p, before) || !slices.Equal(p.Props[:cap(p.Props)], before.Props[:cap(before.Props)]) || !slices.Equal(p.WillProps[:cap(p.WillProps)], before.WillProps[:cap(before.WillProps)]) {
			t.Errorf("%d: properties are changed", i)
		}
		if !slices.Equal(p.Filters[:cap(p.Filters)], before.Filters[:cap(before.Filters)]) || !slices.Equal(p.Codes[:cap(p.Codes)], before.Codes[:cap(before.Codes)]) {
			t.Errorf("%d: filters or codes are changed", i)
		}
		was := bytes.Clone(b)
		clear(p.Props)
		clear(p.WillProps)
		clear(p.Filters)
		clear(p.Codes)
		if !bytes.Equal(b, was) {
			t.Errorf("%d: the form hangs on the packet", i)
		}
	}
}

// P8.3: each form is new memory, to its last spare byte.
func TestP8_3NewMemory(t *testing.T) {
	for i, c := range forms {
		for _, version := range versions {
			a, _ := encode.Encode(version, c.p)
			b, _ := encode.Encode(version, c.p)
			was := bytes.Clone(b)
			a = a[:cap(a)]
			for j := range a {
				a[j] ^= 0xFF
			}
			again, _ := encode.Encode(version, c.p)
			if !bytes.Equal(b, was) || !bytes.Equal(again, was) {
				t.Errorf("%d: two forms share memory", i)
			}
		}
	}
}
