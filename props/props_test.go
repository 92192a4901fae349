package props_test

import (
	"bytes"
	"iter"
	"math"
	"math/rand"
	"slices"
	"strings"
	"testing"

	"pouch/api"
	"pouch/prop"
	"pouch/props"
	"pouch/wire"
)

var full = strings.Repeat("a", api.MaxText)

// laid are Right properties and their bytes, by the document's words.
var laid = []struct {
	p prop.Prop
	b string
}{
	{prop.Prop{Id: 1}, "\x01\x00"}, {prop.Prop{Id: 1, N: 1}, "\x01\x01"}, {prop.Prop{Id: 1, N: 255}, "\x01\xFF"},
	{prop.Prop{Id: 23, N: 1}, "\x17\x01"}, {prop.Prop{Id: 25, N: 1}, "\x19\x01"}, {prop.Prop{Id: 36, N: 1}, "\x24\x01"}, {prop.Prop{Id: 37, N: 1}, "\x25\x01"},
	{prop.Prop{Id: 40, N: 1}, "\x28\x01"}, {prop.Prop{Id: 41, N: 1}, "\x29\x01"}, {prop.Prop{Id: 42, N: 1}, "\x2A\x01"},
	{prop.Prop{Id: 33, N: 7}, "\x21\x00\x07"}, {prop.Prop{Id: 33}, "\x21\x00\x00"}, {prop.Prop{Id: 19, N: 258}, "\x13\x01\x02"}, {prop.Prop{Id: 34, N: 65535}, "\x22\xFF\xFF"}, {prop.Prop{Id: 35, N: 1}, "\x23\x00\x01"},
	{prop.Prop{Id: 2}, "\x02\x00\x00\x00\x00"}, {prop.Prop{Id: 17, N: 0x01020304}, "\x11\x01\x02\x03\x04"}, {prop.Prop{Id: 24, N: math.MaxUint32}, "\x18\xFF\xFF\xFF\xFF"}, {prop.Prop{Id: 39, N: 1}, "\x27\x00\x00\x00\x01"},
	{prop.Prop{Id: 11}, "\x0B\x00"}, {prop.Prop{Id: 11, N: 127}, "\x0B\x7F"}, {prop.Prop{Id: 11, N: 128}, "\x0B\x80\x01"}, {prop.Prop{Id: 11, N: 321}, "\x0B\xC1\x02"}, {prop.Prop{Id: 11, N: 16384}, "\x0B\x80\x80\x01"}, {prop.Prop{Id: 11, N: api.MaxVar}, "\x0B\xFF\xFF\xFF\x7F"},
	{prop.Prop{Id: 3}, "\x03\x00\x00"}, {prop.Prop{Id: 3, A: "ab"}, "\x03\x00\x02ab"}, {prop.Prop{Id: 8, A: "a+"}, "\x08\x00\x02a+"}, {prop.Prop{Id: 18, A: "é"}, "\x12\x00\x02\xC3\xA9"}, {prop.Prop{Id: 21, A: full}, "\x15\xFF\xFF" + full},
	{prop.Prop{Id: 26, A: "a"}, "\x1A\x00\x01a"}, {prop.Prop{Id: 28, A: "a"}, "\x1C\x00\x01a"}, {prop.Prop{Id: 31, A: "a"}, "\x1F\x00\x01a"},
	{prop.Prop{Id: 9}, "\x09\x00\x00"}, {prop.Prop{Id: 9, A: "\xFF\x00"}, "\x09\x00\x02\xFF\x00"}, {prop.Prop{Id: 22, A: full}, "\x16\xFF\xFF" + full},
	{prop.Prop{Id: 38}, "\x26\x00\x00\x00\x00"}, {prop.Prop{Id: 38, A: "k", B: "v"}, "\x26\x00\x01k\x00\x01v"}, {prop.Prop{Id: 38, A: "", B: "vw"}, "\x26\x00\x00\x00\x02vw"}, {prop.Prop{Id: 38, A: full, B: full}, "\x26\xFF\xFF" + full + "\xFF\xFF" + full},
}

// wrong are properties that aren't Right.
var wrong = []prop.Prop{
	{}, {Id: 4}, {Id: 43}, {Id: 255, N: 1}, {Id: 1, N: 256}, {Id: 33, N: 65536}, {Id: 11, N: api.MaxVar + 1}, {Id: 11, N: math.MaxUint32},
	{Id: 1, A: "a"}, {Id: 2, B: "b"}, {Id: 3, A: "\xFF"}, {Id: 3, A: "a\x00"}, {Id: 3, A: full + "a"}, {Id: 3, A: "a", B: "b"}, {Id: 3, N: 1, A: "a"},
	{Id: 9, A: full + "a"}, {Id: 9, A: "a", B: "b"}, {Id: 9, N: 1}, {Id: 38, A: "\xFF"}, {Id: 38, A: "a", B: "\xED\xA0\x80"}, {Id: 38, B: full + "a"}, {Id: 38, N: 1},
}

// notRight are bytes that no Right property begins with.
var notRight = []string{
	"\x00", "\x00\x00", "\x04\x01", "\x05", "\x2B\x00", "\xA6\x00\x00\x00\x00", "\xFF",
	"\x01", "\x21", "\x21\x00", "\x02", "\x02\x00\x00\x00", "\x0B", "\x0B\x80", "\x0B\x80\x00", "\x0B\xFF\xFF\xFF", "\x0B\xFF\xFF\xFF\x80", "\x0B\xFF\xFF\xFF\x80\x01",
	"\x03", "\x03\x00", "\x03\x00\x01", "\x03\x00\x02a", "\x03\x00\x01\xFF", "\x03\x00\x01\x00", "\x03\x00\x02\xC0\x80", "\x03\xFF\xFF" + full[1:],
	"\x09\x00", "\x09\x00\x01", "\x16\xFF\xFF", "\x26", "\x26\x00\x01k", "\x26\x00\x01k\x00", "\x26\x00\x01k\x00\x01", "\x26\x00\x01\xFF\x00\x00", "\x26\x00\x00\x00\x01\x00",
}

// section answers bytes with their number ahead.
func section(b string) string {
	return string(wire.Var(nil, uint32(len(b)))) + b
}

// filled answers Right properties that have n bytes together, of 3 at least.
func filled(n int) []prop.Prop {
	var l []prop.Prop
	for ; n > 2*(3+api.MaxText); n -= 3 + api.MaxText {
		l = append(l, prop.Prop{Id: 9, A: full})
	}
	if n > 3+api.MaxText {
		l = append(l, prop.Prop{Id: 9, A: full[:n/2-3]})
		n -= n / 2
	}
	return append(l, prop.Prop{Id: 9, A: full[:n-3]})
}

// told is what a range tells, one by one.
type told struct {
	p  prop.Prop
	ok bool
}

// ranged answers all that each tells, and asks that nothing comes behind a false.
func ranged(t *testing.T, each iter.Seq2[prop.Prop, bool]) []told {
	t.Helper()
	var l []told
	for p, ok := range each {
		if len(l) > 0 && !l[len(l)-1].ok {
			t.Error("something behind a false")
		}
		if !ok && p != (prop.Prop{}) {
			t.Errorf("%v with a false", p)
		}
		l = append(l, told{p, ok})
	}
	return l
}

// P6.1: a property of each type, laid behind what was there, measured, told and taken.
func TestP6_1EachType(t *testing.T) {
	for _, c := range laid {
		l := []prop.Prop{c.p}
		if got := string(props.Put([]byte("ab"), l)); got != "ab"+section(c.b) {
			t.Errorf("Put of %d %d: %.20x, want %.20x", c.p.Id, c.p.N, got, section(c.b))
		}
		if got := props.Size(l); got != len(section(c.b)) {
			t.Errorf("Size of %d %d: %d, want %d", c.p.Id, c.p.N, got, len(section(c.b)))
		}
		if got := ranged(t, props.Each([]byte(c.b))); !slices.Equal(got, []told{{c.p, true}}) {
			t.Errorf("Each of %.20x: %d told", c.b, len(got))
		}
		r := wire.Read([]byte(section(c.b) + "z"))
		if got, ok := props.Take(r); !ok || !slices.Equal(got, l) || r.Rest() != "z" || r.Err() != api.OK {
			t.Errorf("Take of %.20x: %t, %d taken", c.b, ok, len(got))
		}
	}
}

// P6.1: of none the section is a 0.
func TestP6_1None(t *testing.T) {
	for _, l := range [][]prop.Prop{nil, {}} {
		if got := string(props.Put([]byte("ab"), l)); got != "ab\x00" || props.Size(l) != 1 {
			t.Errorf("%x, %d", got, props.Size(l))
		}
		if got := string(props.Put(nil, l)); got != "\x00" {
			t.Errorf("%x", got)
		}
		if got := props.Sort(l); len(got) != 0 {
			t.Error(got)
		}
	}
	r := wire.Read([]byte("\x00z"))
	if l, ok := props.Take(r); !ok || len(l) != 0 || r.Left() != 1 {
		t.Error(l, ok, r.Left())
	}
	for _, b := range [][]byte{nil, {}} {
		if got := ranged(t, props.Each(b)); len(got) != 0 {
			t.Error(got)
		}
	}
}

// P6.1: several are laid as they stand, not in order.
func TestP6_1PutInTheGivenOrder(t *testing.T) {
	l := []prop.Prop{{Id: 38, A: "k", B: "v"}, {Id: 33, N: 7}, {Id: 38, A: "k"}}
	if got := string(props.Put([]byte{9}, l)); got != "\x09\x10\x26\x00\x01k\x00\x01v\x21\x00\x07\x26\x00\x01k\x00\x00" || props.Size(l) != 17 {
		t.Errorf("%x, %d", got, props.Size(l))
	}
}

// P6.1: where one isn't Right, wherever it stands, nothing is laid.
func TestP6_1NotRightIsNotLaid(t *testing.T) {
	good := prop.Prop{Id: 33, N: 7}
	for _, p := range wrong {
		for _, l := range [][]prop.Prop{{p}, {p, good}, {good, p}, {good, p, good}} {
			if got := string(props.Put([]byte("ab"), l)); got != "ab" || props.Size(l) != 0 {
				t.Errorf("%d %d: %.20x, %d", p.Id, p.N, got, props.Size(l))
			}
			if got := props.Put(nil, l); len(got) != 0 {
				t.Errorf("%d %d behind nothing: %.20x", p.Id, p.N, got)
			}
		}
	}
}

// P6.1: sections at each edge of their Var.
func TestP6_1SizeEdges(t *testing.T) {
	for _, n := range []int{3, 127, 128, 16383, 16384, 65538, 65539, 131076, 131077, 2097151, 2097152} {
		l := filled(n)
		b := props.Put([]byte("ab"), l)
		head := "ab" + string(wire.Var(nil, uint32(n)))
		if !strings.HasPrefix(string(b), head) || len(b) != len(head)+n || props.Size(l) != len(head)-2+n {
			t.Errorf("of %d: %.8x, %d bytes, Size %d", n, b, len(b), props.Size(l))
		}
		r := wire.Read(b[2:])
		if got, ok := props.Take(r); !ok || !slices.Equal(got, l) || r.Left() != 0 {
			t.Errorf("of %d: %t, %d taken, %d left", n, ok, len(got), r.Left())
		}
	}
}

// P6.1: 268435455 bytes are laid, and not one more.
func TestP6_1MostBytes(t *testing.T) {
	l := filled(api.MaxVar)
	if got := props.Size(l); got != api.MaxVar+4 {
		t.Errorf("Size of most: %d", got)
	}
	if b := props.Put([]byte("ab"), l); len(b) != 2+4+api.MaxVar || string(b[:7]) != "ab\xFF\xFF\xFF\x7F\x09" {
		t.Errorf("Put of most: %d bytes", len(b))
	}
	for _, more := range [][]prop.Prop{filled(api.MaxVar + 1), slices.Concat(l, l), slices.Concat(l, []prop.Prop{{Id: 1}}), slices.Repeat([]prop.Prop{{Id: 38, A: full, B: full}}, 1<<16)} {
		if b := props.Put([]byte("ab"), more); string(b) != "ab" || props.Size(more) != 0 {
			t.Errorf("%d of more: %d bytes, Size %d", len(more), len(b), props.Size(more))
		}
	}
}

// P6.1: Each tells what there is, and a false where no Right one begins.
func TestP6_1EachOfWrong(t *testing.T) {
	head := "\x26\x00\x01k\x00\x01v\x21\x00\x07"
	first := []told{{prop.Prop{Id: 38, A: "k", B: "v"}, true}, {prop.Prop{Id: 33, N: 7}, true}}
	for _, b := range notRight {
		if got := ranged(t, props.Each([]byte(b))); !slices.Equal(got, []told{{}}) {
			t.Errorf("Each of %.20x: %v", b, got)
		}
		if got := ranged(t, props.Each([]byte(head+b))); !slices.Equal(got, append(first[:2:2], told{})) {
			t.Errorf("Each of %.20x behind two: %v", b, got)
		}
	}
	if got := ranged(t, props.Each([]byte(head))); !slices.Equal(got, first) {
		t.Errorf("Each: %v", got)
	}
}

// P6.1: Each ends where it is broken off, and begins anew each time.
func TestP6_1EachIsBrokenOff(t *testing.T) {
	each := props.Each([]byte("\x01\x01\x01\x02\x01\x03\x00"))
	for stop := 1; stop <= 4; stop++ {
		calls := 0
		each(func(p prop.Prop, ok bool) bool {
			calls++
			if ok != (calls < 4) || ok && p.N != uint32(calls) {
				t.Errorf("%d: %v, %t", calls, p, ok)
			}
			return calls < stop
		})
		if calls != stop {
			t.Errorf("broken off at %d: %d calls", stop, calls)
		}
	}
	pairs := 0
	for p := range each {
		for q := range each {
			if pairs++; q.N > 3 || p.N > 3 {
				t.Error(p, q)
			}
		}
	}
	if pairs != 16 {
		t.Error("one within the other:", pairs)
	}
}

// P6.1: sections that lack bytes, whose Var is none, or whose bytes aren't those of Right ones.
func TestP6_1TakeIsWrong(t *testing.T) {
	bad := []string{"", "\x80", "\x80\x00", "\xFF\xFF\xFF", "\x80\x80\x80\x80\x01", "\x80\x80\x80\x00", "\x01", "\x03\x21\x00", "\x04\x21\x00\x07", "\xFF\xFF\xFF\x7F\x01\x01", "\x01\x21\x00\x07", "\x02\x21\x00\x07"}
	for _, b := range notRight {
		bad = append(bad, section(b), section("\x21\x00\x07"+b), section(b)+"zzz")
	}
	for _, b := range bad {
		r := wire.Read([]byte(b))
		if l, ok := props.Take(r); ok || len(l) != 0 {
			t.Errorf("Take of %.20x: %t, %v", b, ok, l)
		}
		r.Byte()
		r.Rest()
	}
}

// P6.1, P1: a nil Reader, and one that takes nothing any more.
func TestP6_1TakeOfNoReader(t *testing.T) {
	if l, ok := props.Take(nil); ok || len(l) != 0 {
		t.Error("nil:", l, ok)
	}
	r := wire.Read([]byte("\x03\x21\x00\x07"))
	r.Sub(9)
	if l, ok := props.Take(r); ok || len(l) != 0 {
		t.Error("behind an error:", l, ok)
	}
}

// P6.1: sections one behind the other, and one within a Sub, are taken one by one, in order.
func TestP6_1TakeTheNext(t *testing.T) {
	r := wire.Read([]byte("q\x08\x21\x00\x07\x01\x01\x11\x00\x00\x00\x00\x00\x02\x01\x00z"))
	r.Byte()
	sub := r.Sub(9)
	if l, ok := props.Take(sub); ok || len(l) != 0 {
		t.Error("a section cut within its last property:", l)
	}
	r = wire.Read([]byte("q\x0A\x21\x00\x07\x01\x01\x11\x00\x00\x00\x05\x00\x02\x01\x00z"))
	r.Byte()
	for _, want := range [][]prop.Prop{{{Id: 1, N: 1}, {Id: 17, N: 5}, {Id: 33, N: 7}}, nil, {{Id: 1}}} {
		if l, ok := props.Take(r); !ok || !slices.Equal(l, want) {
			t.Error(l, ok, want)
		}
	}
	if r.Rest() != "z" {
		t.Error("more was taken than the sections")
	}
	r = wire.Read([]byte("\x03\x21\x00\x07"))
	if l, ok := props.Take(r.Sub(3)); ok || len(l) != 0 || r.Left() != 1 {
		t.Error("a byte beyond its own:", l)
	}
}

// P6.1: Take allows what is Right, whatever may be: any order, value, number of one Id.
func TestP6_1TakeAllowsMore(t *testing.T) {
	l := slices.Repeat([]prop.Prop{{Id: 33}, {Id: 1, N: 2}}, api.MaxProps)
	got, ok := props.Take(wire.Read(props.Put(nil, l)))
	if !ok || len(got) != 2*api.MaxProps || got[api.MaxProps-1].Id != 1 || got[api.MaxProps].Id != 33 {
		t.Error(ok, len(got))
	}
}

// P6.1: rising by Id, those of one Id as they stood, whatever they are.
func TestP6_1Sort(t *testing.T) {
	l := []prop.Prop{{Id: 38, A: "z"}, {Id: 11, N: 9}, {Id: 255}, {Id: 38, A: "a"}, {Id: 0, N: 1}, {Id: 11, N: 2}, {Id: 38, A: "m"}, {Id: 0}}
	want := []prop.Prop{{Id: 0, N: 1}, {Id: 0}, {Id: 11, N: 9}, {Id: 11, N: 2}, {Id: 38, A: "z"}, {Id: 38, A: "a"}, {Id: 38, A: "m"}, {Id: 255}}
	if got := props.Sort(l); !slices.Equal(got, want) {
		t.Error(got)
	}
	if got := props.Sort(want); !slices.Equal(got, want) {
		t.Error("of what is sorted:", got)
	}
	random := rand.New(rand.NewSource(1))
	l = nil
	for i := range 2000 {
		l = append(l, prop.Prop{Id: uint8(random.Intn(9)), N: uint32(i)})
	}
	got := props.Sort(l)
	if len(got) != len(l) {
		t.Fatal(len(got))
	}
	for i := 1; i < len(got); i++ {
		p, q := got[i-1], got[i]
		if p.Id > q.Id || p.Id == q.Id && p.N >= q.N || l[q.N] != q {
			t.Fatal(i, p, q)
		}
	}
}

// P6.1: one property alone: of each kind, just with its Value, and where it is For.
func TestP6_1CheckOfOne(t *testing.T) {
	for kind := -1; kind <= 18; kind++ {
		for _, c := range laid {
			if want := prop.Value(c.p) && prop.For(c.p.Id, kind) && c.p.Id != 22; props.Check(kind, []prop.Prop{c.p}) != want {
				t.Errorf("Check(%d, %d %d): %t", kind, c.p.Id, c.p.N, !want)
			}
		}
		for _, p := range wrong {
			if props.Check(kind, []prop.Prop{p}) {
				t.Errorf("Check(%d, %d %d)", kind, p.Id, p.N)
			}
		}
		if !props.Check(kind, nil) || !props.Check(kind, []prop.Prop{}) {
			t.Errorf("Check(%d) of none", kind)
		}
	}
}

// P6.1: lists that may be, and some that may not.
func TestP6_1Check(t *testing.T) {
	pair := prop.Prop{Id: 38, A: "k", B: "v"}
	for i, c := range []struct {
		kind int
		l    []prop.Prop
		want bool
	}{
		{api.Connect, []prop.Prop{{Id: 17}, {Id: 21}, {Id: 22}, {Id: 33, N: 7}, pair}, true},
		{api.Connect, []prop.Prop{{Id: 33, N: 7}, {Id: 17}}, false},
		{api.Connect, []prop.Prop{{Id: 17}, {Id: 33, N: 7}, {Id: 17}}, false},
		{api.Connect, []prop.Prop{{Id: 17}, {Id: 17}}, false},
		{api.Connect, []prop.Prop{{Id: 17}, {Id: 17, N: 1}}, false},
		{api.Connect, []prop.Prop{pair, pair, {Id: 38}}, true},
		{api.Connect, []prop.Prop{pair, {Id: 33, N: 7}}, false},
		{api.Connect, []prop.Prop{{Id: 33, N: 7}, pair}, true},
		{api.Connect, []prop.Prop{{Id: 33}, pair}, false},
		{api.Connect, []prop.Prop{{Id: 25, N: 2}}, false},
		{api.Connect, []prop.Prop{pair, {Id: 38, A: "\xFF"}}, false},
		{api.Connect, []prop.Prop{{Id: 17}, {Id: 31}}, false},
		{api.Connect, []prop.Prop{{Id: 22}}, false},
		{api.Connect, []prop.Prop{{Id: 22}, pair}, false},
		{api.Connect, []prop.Prop{{Id: 21}}, true},
		{api.Connect, []prop.Prop{{Id: 21}, {Id: 22, A: "\xFF"}}, true},
		{api.Connect, []prop.Prop{{Id: 22}, {Id: 21}}, false},
		{api.Connect, []prop.Prop{{Id: 21}, {Id: 21}, {Id: 22}}, false},
		{api.Connack, []prop.Prop{{Id: 22}}, false},
		{api.Auth, []prop.Prop{{Id: 22}}, false},
		{api.Auth, []prop.Prop{{Id: 21, A: "m"}, {Id: 22}, {Id: 31}}, true},
		{api.Publish, []prop.Prop{{Id: 11, N: 2}, {Id: 11, N: 1}, {Id: 11, N: 2}}, true},
		{api.Publish, []prop.Prop{{Id: 11, N: 2}, {Id: 11}}, false},
		{api.Publish, []prop.Prop{{Id: 8, A: "a"}}, true},
		{api.Publish, []prop.Prop{{Id: 8, A: "a"}, {Id: 8, A: "b"}}, false},
		{api.Publish, []prop.Prop{{Id: 8, A: "a+"}}, false},
		{api.Subscribe, []prop.Prop{{Id: 11, N: 1}}, true},
		{api.Subscribe, []prop.Prop{{Id: 11, N: 1}, {Id: 11, N: 2}}, false},
		{api.Will, []prop.Prop{{Id: 1, N: 1}, {Id: 24}, pair}, true},
		{api.Will, []prop.Prop{{Id: 35, N: 1}}, false},
		{api.Publish, []prop.Prop{{Id: 24}}, false},
		{api.Pingreq, []prop.Prop{pair}, false},
		{0, []prop.Prop{pair}, false},
		{math.MaxInt, []prop.Prop{pair}, false},
		{math.MinInt, nil, true},
	} {
		if props.Check(c.kind, c.l) != c.want {
			t.Errorf("%d: Check(%d, %v): %t", i, c.kind, c.l, !c.want)
		}
	}
}

// P6.1: 1024 properties may be, and not one more.
func TestP6_1CheckOfMost(t *testing.T) {
	l := slices.Repeat([]prop.Prop{{Id: 38}}, api.MaxProps)
	if !props.Check(api.Puback, l) || props.Check(api.Puback, append(l, l[0])) || props.Check(api.Puback, append(l, l...)) {
		t.Error("pairs")
	}
	l[0] = prop.Prop{Id: 31}
	if !props.Check(api.Puback, l) {
		t.Error("a 31 and pairs")
	}
}

// P6.1: the first one of an Id, in whatever order they stand.
func TestP6_1Get(t *testing.T) {
	l := []prop.Prop{{Id: 38, A: "k", B: "v"}, {Id: 33, N: 7}, {Id: 38, A: "l"}, {Id: 0, N: 3}, {Id: 33, N: 8}}
	for _, i := range []int{0, 1, 3} {
		if p, ok := props.Get(l, l[i].Id); !ok || p != l[i] {
			t.Error(i, p, ok)
		}
	}
	for _, id := range []uint8{1, 34, 255} {
		if p, ok := props.Get(l, id); ok || p != (prop.Prop{}) {
			t.Error(id, p, ok)
		}
	}
	for _, none := range [][]prop.Prop{nil, {}} {
		if p, ok := props.Get(none, 0); ok || p != (prop.Prop{}) {
			t.Error("of none:", p, ok)
		}
	}
}

// P6.1: all the same, in the same order; nil and empty are one.
func TestP6_1Same(t *testing.T) {
	l := []prop.Prop{{Id: 38, A: "k", B: "v"}, {Id: 33, N: 7}}
	if !props.Same(l, slices.Clone(l)) || !props.Same(nil, []prop.Prop{}) || !props.Same(nil, nil) || !props.Same([]prop.Prop{}, nil) {
		t.Error("the same")
	}
	for i, m := range [][]prop.Prop{nil, l[:1], l[1:], {l[1], l[0]}, {l[0], l[1], l[1]}, {l[0], {Id: 33, N: 8}}, {l[0], {Id: 34, N: 7}}, {{Id: 38, A: "j", B: "v"}, l[1]}, {{Id: 38, A: "k"}, l[1]}} {
		if props.Same(l, m) || props.Same(m, l) {
			t.Error(i, m)
		}
	}
}

// some answers Right properties of all Ids, in any order.
func some(random *rand.Rand) []prop.Prop {
	var l []prop.Prop
	for range random.Intn(12) {
		p := laid[random.Intn(len(laid))].p
		if len(p.A) < 9 {
			l = append(l, p)
		}
	}
	return l
}

// P6.2: what is laid is taken again, in order, and told again as it stood.
func TestP6_2LaidIsTaken(t *testing.T) {
	random := rand.New(rand.NewSource(2))
	for range 3000 {
		l := some(random)
		b := props.Put([]byte{7}, l)
		if len(b) != 1+props.Size(l) {
			t.Fatalf("%v: %d bytes, Size %d", l, len(b), props.Size(l))
		}
		r := wire.Read(append(b, 1, 1))
		r.Byte()
		if got, ok := props.Take(r); !ok || !props.Same(got, props.Sort(l)) || r.Left() != 2 {
			t.Fatalf("%v: taken as %v", l, got)
		}
		r = wire.Read(b[1:])
		r.Var()
		i := 0
		for p, ok := range props.Each([]byte(r.Rest())) {
			if !ok || i >= len(l) || p != l[i] {
				t.Fatalf("%v: told %v", l, p)
			}
			i++
		}
		if i != len(l) {
			t.Fatalf("%v: %d told", l, i)
		}
		for cut := 1; cut < len(b); cut++ {
			if got, ok := props.Take(wire.Read(b[1:cut])); ok {
				t.Fatalf("%x: taken as %v", b[1:cut], got)
			}
		}
	}
}

// P6.2: of all bytes: what is taken and stood in order is laid by just its bytes.
func TestP6_2TakenIsLaid(t *testing.T) {
	random := rand.New(rand.NewSource(3))
	taken := 0
	for range 200000 {
		b := make([]byte, 1+random.Intn(12))
		for i := range b {
			b[i] = []byte{0, 0, 0, 1, 1, 2, 3, 8, 9, 11, 33, 38, 38, 'a', 127, 128, 255, byte(random.Intn(256))}[random.Intn(18)]
		}
		if random.Intn(4) > 0 {
			b[0] = byte(len(b) - 1)
		}
		r := wire.Read(b)
		l, ok := props.Take(r)
		if !ok {
			continue
		}
		own := b[:len(b)-r.Left()]
		var stood []prop.Prop
		for p := range props.Each(own[1:]) {
			stood = append(stood, p)
		}
		if !bytes.Equal(props.Put(nil, stood), own) || !props.Same(props.Sort(stood), l) {
			t.Fatalf("%x taken as %v", own, l)
		}
		if props.Same(stood, l) && !bytes.Equal(props.Put(nil, l), own) {
			t.Fatalf("%x laid as %x", own, props.Put(nil, l))
		}
		taken++
	}
	if taken < 1000 {
		t.Error("too few were taken:", taken)
	}
}

// fewBytes answers all texts of so many of these bytes at most.
func fewBytes(most int, of string) []string {
	all := []string{""}
	for i := 0; i < len(all); i++ {
		if len(all[i]) < most {
			for k := range len(of) {
				all = append(all, all[i]+of[k:k+1])
			}
		}
	}
	return all
}

// shortForms answers the bytes of all Right properties of few bytes, of which fewBytes could be.
func shortForms(of string) map[string]prop.Prop {
	forms := map[string]prop.Prop{}
	add := func(p prop.Prop) {
		if b := props.Put(nil, []prop.Prop{p}); len(b) > 0 {
			forms[string(b[1:])] = p
		}
	}
	texts := fewBytes(2, of)
	for _, id := range []byte(of) {
		for _, digits := range fewBytes(4, of) {
			var high, low uint32
			for i, c := range []byte(digits) {
				high = high<<8 + uint32(c)
				low += uint32(c%128) << (7 * i)
			}
			add(prop.Prop{Id: id, N: high})
			add(prop.Prop{Id: id, N: low})
		}
		for _, s := range texts {
			add(prop.Prop{Id: id, A: s})
			for _, u := range texts {
				add(prop.Prop{Id: id, A: s, B: u})
			}
		}
	}
	return forms
}

// P6.1, P6.2: of all short texts of some bytes: Each tells one just where a Right one's bytes begin.
func TestP6_2AllShortBytes(t *testing.T) {
	const of = "\x00\x01\x0B\x21\x26\x03\x80"
	forms := shortForms(of)
	for _, s := range fewBytes(5, of) {
		rest := s
		for p, ok := range props.Each([]byte(s)) {
			size, want := 0, prop.Prop{}
			for n := 1; n <= len(rest) && size == 0; n++ {
				if q, is := forms[rest[:n]]; is {
					size, want = n, q
				}
			}
			if ok != (size > 0) || p != want || rest == "" {
				t.Fatalf("%x: %v, %t at %x", s, p, ok, rest)
			}
			rest = rest[size:]
			if !ok {
				rest = ""
			}
		}
		if rest != "" {
			t.Fatalf("%x: %x isn't told", s, rest)
		}
	}
}

// P6.3: the bytes behind which is laid stay as they were, spare room too, and the answer shares none of them.
func TestP6_3PutIsNewMemory(t *testing.T) {
	whole := []byte("ab" + strings.Repeat("#", 40))
	kept := bytes.Clone(whole)
	for i, l := range [][]prop.Prop{nil, {{Id: 33, N: 7}}, {{Id: 38, A: "k", B: "v"}, {Id: 1}}, {{Id: 4}}, {{Id: 9, A: full + "a"}}} {
		before := slices.Clone(l)
		got := props.Put(whole[:2], l)
		want := bytes.Clone(got)
		if !bytes.Equal(whole, kept) || !slices.Equal(l, before) {
			t.Error(i, "what was handed in is changed")
		}
		whole[0], whole[2] = 'x', 'y'
		if !bytes.Equal(got, want) {
			t.Error(i, "hangs on what was handed in")
		}
		got = got[:cap(got)]
		for k := range got {
			got[k] = '!'
		}
		if whole[0] != 'x' || whole[2] != 'y' || whole[4] != '#' {
			t.Error(i, "writes into what was handed in")
		}
		copy(whole, kept)
	}
	b := props.Put(nil, nil)
	x, y := props.Put(b, []prop.Prop{{Id: 1}}), props.Put(b, []prop.Prop{{Id: 2}})
	if string(x) != "\x00\x02\x01\x00" || string(y) != "\x00\x05\x02\x00\x00\x00\x00" {
		t.Errorf("%x, %x", x, y)
	}
}

// P6.3: Each keeps nothing of what was handed in, and changes nothing of it.
func TestP6_3EachIsNewMemory(t *testing.T) {
	b := []byte("\x21\x00\x07\x26\x00\x01k\x00\x01v")
	kept := bytes.Clone(b)
	each := props.Each(b)
	first := ranged(t, each)
	if !bytes.Equal(b, kept) {
		t.Errorf("changed: %x", b)
	}
	clear(b)
	if got := ranged(t, each); !slices.Equal(got, first) || len(got) != 2 || got[1].p.A != "k" || first[1].p.B != "v" {
		t.Error("hangs on what was handed in:", got)
	}
	copy(b, kept)
	i := 0
	for p, ok := range props.Each(b) {
		clear(b)
		if !ok || p != first[i].p {
			t.Error("hangs on what is changed while it is ranged over:", p)
		}
		i++
	}
	if i != 2 {
		t.Error(i, "told")
	}
}

// P6.3: what is taken shares nothing with the bytes, nor with what else is taken of them.
func TestP6_3TakeIsNewMemory(t *testing.T) {
	b := []byte("\x0A\x26\x00\x01k\x00\x01v\x21\x00\x07")
	kept := bytes.Clone(b)
	l, _ := props.Take(wire.Read(b))
	m, _ := props.Take(wire.Read(b))
	if !bytes.Equal(b, kept) {
		t.Errorf("changed: %x", b)
	}
	clear(b)
	l[0].N = 9
	if l[1].A != "k" || m[0].N != 7 || m[1].B != "v" {
		t.Error(l, m)
	}
}

// P6.3: Sort, Check, Get and Same change nothing, and Sort's answer is new memory.
func TestP6_3ListsAreNewMemory(t *testing.T) {
	whole := []prop.Prop{{Id: 38, A: "k"}, {Id: 33, N: 7}, {Id: 22}, {Id: 1}, {Id: 2}}
	kept := slices.Clone(whole)
	l := whole[:3]
	sorted := props.Sort(l)
	props.Check(api.Connect, l)
	props.Get(l, 33)
	props.Same(l, whole)
	props.Size(l)
	if !slices.Equal(whole, kept) {
		t.Error("changed:", whole)
	}
	clear(l)
	if sorted[0].Id != 22 || sorted[2].A != "k" {
		t.Error("hangs on what was handed in:", sorted)
	}
	copy(whole, kept)
	again := props.Sort(sorted)
	again = again[:cap(again)]
	clear(again)
	if sorted[0].Id != 22 || !slices.Equal(whole, kept) {
		t.Error("what is sorted already is shared:", sorted)
	}
}

// P1 of DOC.md: any bytes, and any lists, have an answer.
func TestP1AnyArguments(t *testing.T) {
	random := rand.New(rand.NewSource(4))
	for range 20000 {
		b := make([]byte, random.Intn(16))
		random.Read(b)
		var l []prop.Prop
		for range random.Intn(5) {
			l = append(l, prop.Prop{Id: uint8(random.Intn(256)), N: random.Uint32() >> random.Intn(32), A: string(b[:random.Intn(len(b)+1)])})
		}
		told := ranged(t, props.Each(b))
		if len(told) > len(b) {
			t.Fatalf("%x: %d told", b, len(told))
		}
		r := wire.Read(b)
		if taken, ok := props.Take(r); !ok && len(taken) != 0 {
			t.Fatalf("%x: %v with a false", b, taken)
		}
		props.Take(r)
		props.Check(random.Intn(20)-2, l)
		if put := props.Put(b, l); len(put) != len(b)+props.Size(l) || !bytes.HasPrefix(put, b) {
			t.Fatalf("%v: %x", l, put)
		}
	}
}
