package alias_test

import (
	"maps"
	"math/rand"
	"runtime"
	"slices"
	"strconv"
	"strings"
	"testing"

	"pouch/alias"
	"pouch/api"
)

type (
	row   = alias.Row
	table = alias.Table
)

var long = strings.Repeat("a", api.MaxText)

// names are topics, and noNames texts, not empty, that are none.
var (
	names   = []string{"a", "b", "/", "a/b", "$x", "$share/g/a", "é/€/😀", " ", long}
	noNames = []string{"#", "+", "a+", "a/#", "a/+/b", "\x00", "a\x00", "\xFF", "\xC0\x80", "\xED\xA0\x80", "a\xC3", long + "a"}
)

// few is a Table with both ends of the numbers, and one name that two stand for.
var few = table{{1, "a"}, {2, "b/c"}, {7, "a"}, {256, "$x"}, {65535, long}}

// held is what stands for what.
type held map[uint16]string

func heldOf(t table) held {
	h := held{}
	for _, r := range t {
		h[r.Alias] = r.Topic
	}
	return h
}

// rows answers them rising.
func (h held) rows() table {
	var t table
	for _, n := range slices.Sorted(maps.Keys(h)) {
		t = append(t, row{n, h[n]})
	}
	return t
}

// use does in h what the document says of Use, of a name that is empty, or of which is said whether it is one.
func (h held) use(most, n uint16, name string, isName bool) (string, api.Errno) {
	if n == 0 || n > most || name != "" && !isName {
		return "", api.ErrArg
	}
	if name != "" {
		h[n] = name
		return name, api.OK
	}
	stood, ok := h[n]
	if !ok {
		return "", api.ErrNone
	}
	return stood, api.OK
}

// used uses, and holds the answer against the document's.
func used(t *testing.T, tb table, most, n uint16, name string, isName bool) (table, api.Errno) {
	t.Helper()
	h, before := heldOf(tb), slices.Clone(tb)
	want, wrong := h.use(most, n, name, isName)
	got, topic, err := alias.Use(tb, most, n, name)
	if err != wrong || topic != want || !slices.Equal(got, h.rows()) || !slices.Equal(tb, before) || !alias.Right(got) {
		t.Errorf("Use of %d rows, %d, %d, %.20q: %d rows, %.20q, %d, want %d rows, %.20q, %d", len(before), most, n, name, len(got), topic, err, len(h), want, wrong)
	}
	return got, err
}

// full answers a Table of all numbers that there are.
func full() table {
	t := make(table, 0, 65535)
	for n := 1; n <= 65535; n++ {
		t = append(t, row{uint16(n), strconv.Itoa(n)})
	}
	return t
}

// P12.1: Aliases rise, each once, none is 0.
func TestP12_1RightAliases(t *testing.T) {
	for _, tb := range []table{nil, {}, few, few[:1], few[3:], {{65535, "a"}}, full()} {
		if !alias.Right(tb) {
			t.Errorf("Right of %d rows: false", len(tb))
		}
	}
	for _, l := range [][]uint16{{0}, {0, 1}, {1, 0}, {1, 1}, {2, 1}, {1, 2, 2}, {1, 3, 2}, {1, 2, 3, 0}, {65535, 1}, {65535, 65535}, {1, 65535, 0}, {256, 1}, {7, 8, 9, 7}} {
		var tb table
		for _, n := range l {
			tb = append(tb, row{n, "a"})
		}
		if alias.Right(tb) {
			t.Errorf("Right of the numbers %v: true", l)
		}
	}
	for _, i := range []int{0, 1, 32768, 65533} {
		tb := full()
		tb[i], tb[i+1] = tb[i+1], tb[i]
		if alias.Right(tb) {
			t.Errorf("Right with the rows %d and %d changed: true", i, i+1)
		}
	}
}

// P12.1: each Topic is a Name, wherever the Row stands.
func TestP12_1RightTopics(t *testing.T) {
	around := func(s string) []table {
		return []table{{{7, s}}, {{1, "a"}, {7, s}}, {{7, s}, {8, "a"}}, {{1, "a"}, {7, s}, {8, "b"}}}
	}
	for _, s := range names {
		for _, tb := range around(s) {
			if !alias.Right(tb) {
				t.Errorf("Right with %.20q: false", s)
			}
		}
	}
	for _, s := range append([]string{""}, noNames...) {
		for _, tb := range around(s) {
			if alias.Right(tb) {
				t.Errorf("Right with %.20q: true", s)
			}
		}
	}
}

// P12.1: a message with a number and a topic, or with a number alone, at the edges of what is taken.
func TestP12_1Use(t *testing.T) {
	for _, tb := range []table{nil, {}, few, few[:2], few[2:4]} {
		for _, n := range []uint16{0, 1, 2, 3, 6, 7, 8, 255, 256, 257, 65534, 65535} {
			for _, most := range []uint16{0, 1, 2, 6, 7, 8, 256, 65534, 65535} {
				used(t, tb, most, n, "", false)
				for _, s := range names {
					used(t, tb, most, n, s, true)
				}
				for _, s := range noNames {
					used(t, tb, most, n, s, false)
				}
			}
		}
	}
}

// P12.1: Use by hand: what comes first, and what stays beside an error.
func TestP12_1UseByHand(t *testing.T) {
	for _, c := range []struct {
		most, n     uint16
		name, topic string
		err         api.Errno
	}{
		{0, 0, "", "", api.ErrArg}, {5, 0, "a", "", api.ErrArg}, {0, 1, "a", "", api.ErrArg}, {0, 1, "", "", api.ErrArg},
		{6, 7, "", "", api.ErrArg}, {6, 7, "b", "", api.ErrArg}, {7, 7, "", "a", api.OK}, {7, 7, "b", "b", api.OK}, {7, 7, "a", "a", api.OK},
		{65534, 65535, "", "", api.ErrArg}, {65535, 65535, "", long, api.OK}, {65535, 65535, "z", "z", api.OK},
		{7, 7, "#", "", api.ErrArg}, {7, 6, "+", "", api.ErrArg}, {7, 7, "a\x00", "", api.ErrArg}, {7, 7, long + "a", "", api.ErrArg}, {7, 6, long, long, api.OK},
		{7, 6, "", "", api.ErrNone}, {65535, 65534, "", "", api.ErrNone}, {6, 8, "", "", api.ErrArg},
	} {
		tb, topic, err := alias.Use(few, c.most, c.n, c.name)
		if topic != c.topic || err != c.err {
			t.Errorf("Use(%d, %d, %.20q): %.20q, %d, want %.20q, %d", c.most, c.n, c.name, topic, err, c.topic, c.err)
		}
		if (err != api.OK || c.name == "") && !slices.Equal(tb, few) {
			t.Errorf("Use(%d, %d, %.20q): another Table", c.most, c.n, c.name)
		}
		if s, ok := alias.Get(tb, c.n); err == api.OK && (s != topic || !ok) {
			t.Errorf("Use(%d, %d, %.20q), then Get: %.20q, %t", c.most, c.n, c.name, s, ok)
		}
	}
	for _, tb := range []table{nil, {}} {
		if got, s, err := alias.Use(tb, 5, 3, ""); len(got) != 0 || s != "" || err != api.ErrNone {
			t.Error(got, s, err)
		}
	}
}

// P12.1: what a number stands for; none stands for nothing.
func TestP12_1Get(t *testing.T) {
	for n := range 65536 {
		want, stands := heldOf(few)[uint16(n)]
		if got, ok := alias.Get(few, uint16(n)); got != want || ok != stands {
			t.Errorf("Get(%d): %.20q, %t", n, got, ok)
		}
		for _, tb := range []table{nil, {}} {
			if got, ok := alias.Get(tb, uint16(n)); got != "" || ok {
				t.Errorf("Get(%d) of none: %q, %t", n, got, ok)
			}
		}
	}
}

// P12.1: the document's example.
func TestP12_1Example(t *testing.T) {
	tb, s, err := alias.Use(nil, 3, 3, "a")
	if !slices.Equal(tb, table{{3, "a"}}) || s != "a" || err != api.OK {
		t.Error(tb, s, err)
	}
	tb, s, err = alias.Use(tb, 3, 3, "")
	if !slices.Equal(tb, table{{3, "a"}}) || s != "a" || err != api.OK {
		t.Error(tb, s, err)
	}
}

// P12.1: all Tables that come of none by calls of few numbers and topics, held against the document's words call by call.
func TestP12_1AllOfFew(t *testing.T) {
	seen := map[[4]row]bool{{}: true}
	work := []table{nil}
	for len(work) > 0 {
		tb := work[0]
		work = work[1:]
		for n := range uint16(6) {
			for _, name := range []string{"", "a", "b", "a/b", "#", "a+"} {
				for most := range uint16(5) {
					got, _ := used(t, tb, most, n, name, !strings.ContainsAny(name, "+#"))
					var key [4]row
					copy(key[:], got)
					if !seen[key] {
						seen[key] = true
						work = append(work, got)
					}
				}
			}
		}
	}
	// Each of four numbers stands for nothing, or one of three topics.
	if len(seen) != 4*4*4*4 {
		t.Error(len(seen), "Tables")
	}
}

// P12.1: when all numbers stand for something each may still stand for something else.
func TestP12_1Full(t *testing.T) {
	tb := full()
	for _, n := range []uint16{1, 2, 32768, 65534, 65535} {
		used(t, tb, 65535, n, "", false)
		got, _ := used(t, tb, 65535, n, "other", true)
		if len(got) != 65535 {
			t.Error(n, len(got), "rows")
		}
		less := slices.Delete(slices.Clone(tb), int(n)-1, int(n))
		used(t, less, 65535, n, "", false)
		used(t, less, 65535, n, "other", true)
	}
}

// P12.2: what is handed in stays as it was, spare room too, and no answer shares anything with it, or with another answer.
func TestP12_2NewMemory(t *testing.T) {
	mark := row{99, "mark"}
	for i, call := range []func(table) table{
		func(tb table) table { u, _, _ := alias.Use(tb, 100, 1, "x"); return u },
		func(tb table) table { u, _, _ := alias.Use(tb, 100, 50, "x"); return u },
		func(tb table) table { u, _, _ := alias.Use(tb, 100, 100, "x"); return u },
		func(tb table) table { u, _, _ := alias.Use(tb, 100, 5, "x"); return u },
		func(tb table) table { u, _, _ := alias.Use(tb, 100, 7, "b"); return u },
		func(tb table) table { u, _, _ := alias.Use(tb, 100, 90, "x"); return u },
		func(tb table) table { u, _, _ := alias.Use(tb, 100, 7, ""); return u },
		func(tb table) table { u, _, _ := alias.Use(tb, 100, 6, ""); return u },
		func(tb table) table { u, _, _ := alias.Use(tb, 100, 0, "x"); return u },
		func(tb table) table { u, _, _ := alias.Use(tb, 100, 7, "#"); return u },
		func(tb table) table { alias.Right(tb); alias.Get(tb, 7); return nil },
	} {
		whole := table{{5, "a"}, {7, "b"}, {90, "c"}, mark, mark, mark}
		kept := slices.Clone(whole)
		got, other := call(whole[:3]), call(whole[:3])
		want := slices.Clone(got)
		if !slices.Equal(whole, kept) || !slices.Equal(other, want) {
			t.Errorf("call %d: %v of what was handed in, then %v", i, whole, other)
		}
		clear(whole)
		if !slices.Equal(got, want) {
			t.Errorf("call %d hangs on what was handed in: %v", i, got)
		}
		got = got[:cap(got)]
		for k := range got {
			got[k] = mark
		}
		if !slices.Equal(whole, make(table, 6)) || !slices.Equal(other, want) {
			t.Errorf("call %d shares: %v, %v", i, whole, other)
		}
	}
}

// inUse says how many bytes of memory are.
func inUse() uint64 {
	runtime.GC()
	var m runtime.MemStats
	runtime.ReadMemStats(&m)
	return m.HeapAlloc
}

// P12.2: a name that is a piece of a long text isn't kept with all of it, neither by a Table nor by what is answered.
func TestP12_2NamesAreNotKept(t *testing.T) {
	const size = 1 << 22
	var tb table
	var topics []string
	before := inUse()
	for i := range 16 {
		text := strings.Repeat(strconv.Itoa(i%10), size)
		u, s, err := alias.Use(tb, 100, uint16(i+1), text[:3])
		if err != api.OK {
			t.Fatal(err)
		}
		tb, topics = u, append(topics, s)
	}
	if after := inUse(); after > before+4*size {
		t.Errorf("%d bytes are kept", after-before)
	}
	for i, s := range topics {
		if want := strings.Repeat(strconv.Itoa(i%10), 3); s != want || tb[i].Topic != want {
			t.Errorf("%q, %q, want %q", s, tb[i].Topic, want)
		}
	}
}

// P1 of DOC.md: any arguments have an answer, also Tables that aren't Right.
func TestP1AnyArguments(t *testing.T) {
	random := rand.New(rand.NewSource(8))
	texts := append([]string{"", "#", "\xFF", "a+", "\x00"}, names[:6]...)
	for range 50000 {
		var tb table
		for range random.Intn(7) {
			tb = append(tb, row{uint16(random.Intn(5)), texts[random.Intn(len(texts))]})
		}
		n := uint16(random.Intn(6))
		alias.Use(tb, uint16(random.Intn(6)), n, texts[random.Intn(len(texts))])
		alias.Get(tb, n)
		alias.Right(tb)
	}
}
