package wire_test

import (
	"bytes"
	"math"
	"math/rand"
	"strings"
	"testing"

	"pouch/api"
	"pouch/wire"
)

// P1.1: numbers are laid the highest byte first, behind what was there.
func TestP1_1NumbersAreLaid(t *testing.T) {
	for _, c := range []struct {
		name      string
		got, want string
	}{
		{"Byte 0", string(wire.Byte(nil, 0)), "\x00"},
		{"Byte 255", string(wire.Byte(nil, 255)), "\xFF"},
		{"Byte behind", string(wire.Byte([]byte("ab"), 7)), "ab\x07"},
		{"Two 0", string(wire.Two(nil, 0)), "\x00\x00"},
		{"Two 258", string(wire.Two(nil, 258)), "\x01\x02"},
		{"Two 65535", string(wire.Two(nil, 65535)), "\xFF\xFF"},
		{"Two behind", string(wire.Two([]byte("ab"), 0x7F80)), "ab\x7F\x80"},
		{"Four 0", string(wire.Four(nil, 0)), "\x00\x00\x00\x00"},
		{"Four 0x01020304", string(wire.Four(nil, 0x01020304)), "\x01\x02\x03\x04"},
		{"Four most", string(wire.Four(nil, math.MaxUint32)), "\xFF\xFF\xFF\xFF"},
		{"Four behind", string(wire.Four([]byte("ab"), 0x80FF00FE)), "ab\x80\xFF\x00\xFE"},
	} {
		if c.got != c.want {
			t.Errorf("%s: %x, want %x", c.name, c.got, c.want)
		}
	}
}

var varEdges = []struct {
	n    uint32
	laid string
}{
	{0, "\x00"}, {1, "\x01"}, {127, "\x7F"},
	{128, "\x80\x01"}, {321, "\xC1\x02"}, {16383, "\xFF\x7F"},
	{16384, "\x80\x80\x01"}, {2097151, "\xFF\xFF\x7F"},
	{2097152, "\x80\x80\x80\x01"}, {268435455, "\xFF\xFF\xFF\x7F"},
}

// P1.1, P1.2: the least and the greatest number of each count of bytes, laid, measured and taken.
func TestP1_1VarEdges(t *testing.T) {
	for _, c := range varEdges {
		if got := string(wire.Var([]byte("ab"), c.n)); got != "ab"+c.laid {
			t.Errorf("Var of %d: %x, want %x", c.n, got, "ab"+c.laid)
		}
		if got := wire.VarSize(c.n); got != len(c.laid) {
			t.Errorf("VarSize of %d: %d, want %d", c.n, got, len(c.laid))
		}
		r := wire.Read([]byte(c.laid + "z"))
		if got := r.Var(); got != c.n || r.Err() != api.OK || r.Left() != 1 {
			t.Errorf("Var of %x: %d, %d, %d left", c.laid, got, r.Err(), r.Left())
		}
	}
}

// P1.1: a number above MaxVar has no Var.
func TestP1_1VarTooGreat(t *testing.T) {
	for _, n := range []uint32{api.MaxVar + 1, api.MaxVar + 128, 1 << 31, math.MaxUint32} {
		if got := string(wire.Var([]byte("ab"), n)); got != "ab" {
			t.Errorf("Var of %d: %x", n, got)
		}
		if got := wire.Var(nil, n); len(got) != 0 {
			t.Errorf("Var of %d behind nothing: %x", n, got)
		}
		if got := wire.VarSize(n); got != 0 {
			t.Errorf("VarSize of %d: %d", n, got)
		}
	}
}

// P1.1, P1.2: Bins of 0, 65535 and 65536 bytes, which need not be texts.
func TestP1_1BinEdges(t *testing.T) {
	most := strings.Repeat("\xFF\x00", 32767) + "\x80"
	for _, c := range []struct{ s, head string }{
		{"", "\x00\x00"}, {"ab", "\x00\x02"}, {strings.Repeat("q", 256), "\x01\x00"}, {most, "\xFF\xFF"},
	} {
		laid := wire.Bin([]byte("x"), c.s)
		if string(laid) != "x"+c.head+c.s {
			t.Errorf("Bin of %d bytes: %d bytes", len(c.s), len(laid))
		}
		r := wire.Read(append(laid[1:], 'z'))
		if got := r.Bin(); got != c.s || r.Err() != api.OK || r.Left() != 1 {
			t.Errorf("Bin of %d bytes taken: %d bytes, %d, %d left", len(c.s), len(got), r.Err(), r.Left())
		}
	}
	if got := string(wire.Bin([]byte("x"), most+"q")); got != "x" {
		t.Errorf("Bin of 65536 bytes: %d bytes", len(got))
	}
	if got := wire.Bin(nil, strings.Repeat("q", 1<<17)); len(got) != 0 {
		t.Errorf("Bin of 131072 bytes: %d bytes", len(got))
	}
}

// dead tells whether r takes nothing any more, and still answers want.
func dead(t *testing.T, name string, r *wire.Reader, want api.Errno) {
	t.Helper()
	for range 2 {
		if r.Err() != want || r.Left() != 0 {
			t.Errorf("%s: %d, %d left, want %d, 0 left", name, r.Err(), r.Left(), want)
		}
		if r.Byte() != 0 || r.Two() != 0 || r.Four() != 0 || r.Var() != 0 || r.Bin() != "" || r.Rest() != "" {
			t.Errorf("%s: something is taken behind the error", name)
		}
		for _, n := range []int{0, 1, -1} {
			sub := r.Sub(n)
			if sub == nil || sub.Err() != want || sub.Left() != 0 || sub.Byte() != 0 || sub.Rest() != "" || sub.Sub(0).Err() != want {
				t.Errorf("%s: Sub(%d) is of another error", name, n)
			}
		}
	}
}

// P1.1: where bytes lack nothing is answered, and from then on nothing is taken.
func TestP1_1BytesLack(t *testing.T) {
	for _, c := range []struct {
		name, b string
		take    func(r *wire.Reader) bool
	}{
		{"Byte", "", func(r *wire.Reader) bool { return r.Byte() == 0 }},
		{"Two of none", "", func(r *wire.Reader) bool { return r.Two() == 0 }},
		{"Two of 1", "\x07", func(r *wire.Reader) bool { return r.Two() == 0 }},
		{"Four of none", "", func(r *wire.Reader) bool { return r.Four() == 0 }},
		{"Four of 1", "\x07", func(r *wire.Reader) bool { return r.Four() == 0 }},
		{"Four of 3", "\x07\x07\x07", func(r *wire.Reader) bool { return r.Four() == 0 }},
		{"Bin of none", "", func(r *wire.Reader) bool { return r.Bin() == "" }},
		{"Bin of half a number", "\x00", func(r *wire.Reader) bool { return r.Bin() == "" }},
		{"Bin without its byte", "\x00\x01", func(r *wire.Reader) bool { return r.Bin() == "" }},
		{"Bin of a byte too few", "\x00\x03ab", func(r *wire.Reader) bool { return r.Bin() == "" }},
		{"Bin of most", "\xFF\xFFab", func(r *wire.Reader) bool { return r.Bin() == "" }},
	} {
		r := wire.Read([]byte(c.b))
		if !c.take(r) {
			t.Errorf("%s: something is answered", c.name)
		}
		dead(t, c.name, r, api.ErrShort)
	}
}

// P1.1: of a Var what is wrong first, from the left, counts.
func TestP1_1VarIsNone(t *testing.T) {
	for _, c := range []struct {
		b    string
		want api.Errno
	}{
		{"", api.ErrShort}, {"\x80", api.ErrShort}, {"\xFF", api.ErrShort},
		{"\x80\x80", api.ErrShort}, {"\xFF\xFF\xFF", api.ErrShort}, {"\x80\x80\x80", api.ErrShort},
		{"\x80\x80\x80\x80", api.ErrMalformed}, {"\xFF\xFF\xFF\xFF", api.ErrMalformed},
		{"\xFF\xFF\xFF\x80", api.ErrMalformed}, {"\x80\x80\x80\x80\x01", api.ErrMalformed}, {"\x80\x80\x80\x80\x00", api.ErrMalformed},
		{"\x80\x00", api.ErrMalformed}, {"\xFF\x00", api.ErrMalformed}, {"\x80\x00\x07", api.ErrMalformed},
		{"\x80\x80\x00", api.ErrMalformed}, {"\xFF\xFF\x00", api.ErrMalformed},
		{"\x80\x80\x80\x00", api.ErrMalformed}, {"\xFF\xFF\xFF\x00zzz", api.ErrMalformed},
	} {
		r := wire.Read([]byte(c.b))
		if n := r.Var(); n != 0 {
			t.Errorf("Var of %x: %d", c.b, n)
		}
		dead(t, "Var", r, c.want)
	}
}

// P1.1: takings behind the first thing that is wrong, of which bytes would be left.
func TestP1_1FirstErrorStays(t *testing.T) {
	r := wire.Read([]byte("\x01\x80\x00\x05\x06\x07\x08"))
	if r.Byte() != 1 || r.Var() != 0 {
		t.Error("takings ahead")
	}
	dead(t, "malformed first", r, api.ErrMalformed)
	r = wire.Read([]byte("\x00\x09abc"))
	if r.Bin() != "" {
		t.Error("a Bin that lacks bytes")
	}
	dead(t, "short first", r, api.ErrShort)
}

// P1.1: a Sub has the next bytes, and they are taken.
func TestP1_1Sub(t *testing.T) {
	r := wire.Read([]byte("abcde"))
	if s := r.Sub(0); s.Err() != api.OK || s.Left() != 0 || s.Rest() != "" || r.Left() != 5 {
		t.Error("Sub of none")
	}
	s := r.Sub(3)
	if s.Left() != 3 || r.Left() != 2 || s.Byte() != 'a' || s.Rest() != "bc" || s.Err() != api.OK {
		t.Error("Sub of three")
	}
	s = r.Sub(2)
	if r.Left() != 0 || r.Err() != api.OK || s.Sub(2).Rest() != "de" || s.Left() != 0 || s.Err() != api.OK {
		t.Error("Sub of a Sub, of all")
	}
	if r.Sub(0).Err() != api.OK || r.Err() != api.OK {
		t.Error("Sub of none where none is left")
	}
}

// P1.1: a Sub of more bytes than there are, or of fewer than none, is ErrShort, of both.
func TestP1_1SubIsWrong(t *testing.T) {
	for _, n := range []int{4, 5, 1 << 40, math.MaxInt, -1, -3, math.MinInt} {
		r := wire.Read([]byte("abc"))
		s := r.Sub(n)
		dead(t, "the Sub", s, api.ErrShort)
		dead(t, "its Reader", r, api.ErrShort)
	}
	r := wire.Read([]byte("\x80\x00abc"))
	r.Var()
	dead(t, "Sub behind another error", r.Sub(-1), api.ErrMalformed)
}

// P1.1: what is wrong with a Sub isn't with its Reader.
func TestP1_1SubFailsAlone(t *testing.T) {
	r := wire.Read([]byte("abcd"))
	s := r.Sub(1)
	s.Two()
	dead(t, "the Sub", s, api.ErrShort)
	if r.Err() != api.OK || r.Rest() != "bcd" {
		t.Error("its Reader")
	}
}

// P1.1: Rest takes all, and nothing left is nothing wrong.
func TestP1_1Rest(t *testing.T) {
	r := wire.Read([]byte("a\x00\xFF"))
	if r.Left() != 3 || r.Byte() != 'a' || r.Rest() != "\x00\xFF" || r.Left() != 0 || r.Rest() != "" || r.Err() != api.OK {
		t.Error("Rest")
	}
	if r.Byte() != 0 || r.Err() != api.ErrShort {
		t.Error("Byte behind Rest")
	}
	for _, r := range []*wire.Reader{wire.Read(nil), wire.Read([]byte{})} {
		if r == nil || r.Left() != 0 || r.Rest() != "" || r.Err() != api.OK {
			t.Error("a Reader of nothing")
		}
	}
}

// P1 of DOC.md: a nil Reader has its answers.
func TestP1NilReader(t *testing.T) {
	var r *wire.Reader
	if r.Byte() != 0 || r.Two() != 0 || r.Four() != 0 || r.Var() != 0 || r.Left() != 0 {
		t.Error("numbers")
	}
	if r.Bin() != "" || r.Rest() != "" {
		t.Error("texts")
	}
	for _, n := range []int{0, 1, -1, math.MaxInt, math.MinInt} {
		if r.Sub(n) != nil {
			t.Error("Sub of", n)
		}
	}
	if r.Err() != api.ErrArg {
		t.Error(r.Err())
	}
}

// P1 of DOC.md: any takings of any bytes end, and never take more than there are.
func TestP1AnyTakings(t *testing.T) {
	random := rand.New(rand.NewSource(1))
	for range 20000 {
		b := make([]byte, random.Intn(12))
		for i := range b {
			b[i] = []byte{0, 0, 1, 2, 127, 128, 255, byte(random.Intn(256))}[random.Intn(8)]
		}
		r := wire.Read(b)
		for range 8 {
			left, err := r.Left(), r.Err()
			switch random.Intn(7) {
			case 0:
				r.Byte()
			case 1:
				r.Two()
			case 2:
				r.Four()
			case 3:
				r.Var()
			case 4:
				r.Bin()
			case 5:
				r.Rest()
			case 6:
				sub := r.Sub(random.Intn(9) - 2)
				if sub.Err() != r.Err() {
					t.Fatal("a Sub of another error")
				}
				if random.Intn(2) == 0 {
					r = sub
				}
			}
			if r.Left() > left || r.Left() < 0 || err != api.OK && r.Err() != err || r.Err() != api.OK && r.Left() != 0 {
				t.Fatalf("%x: %d left of %d, %d behind %d", b, r.Left(), left, r.Err(), err)
			}
		}
	}
}

// P1.2: what is laid, in any order, is taken again.
func TestP1_2LaidIsTaken(t *testing.T) {
	random := rand.New(rand.NewSource(2))
	for range 500 {
		var b []byte
		var kinds []int
		var numbers []uint32
		var texts []string
		for range random.Intn(12) {
			kind, n := random.Intn(5), random.Uint32()>>random.Intn(32)
			s := strings.Repeat(string([]byte{byte(n), 0xFF}), random.Intn(300))
			switch kind {
			case 0:
				n %= 1 << 8
				b = wire.Byte(b, uint8(n))
			case 1:
				n %= 1 << 16
				b = wire.Two(b, uint16(n))
			case 2:
				b = wire.Four(b, n)
			case 3:
				n %= api.MaxVar + 1
				b = wire.Var(b, n)
			case 4:
				b = wire.Bin(b, s)
			}
			kinds, numbers, texts = append(kinds, kind), append(numbers, n), append(texts, s)
		}
		r := wire.Read(b)
		for i, kind := range kinds {
			got, s := numbers[i], texts[i]
			switch kind {
			case 0:
				got = uint32(r.Byte())
			case 1:
				got = uint32(r.Two())
			case 2:
				got = r.Four()
			case 3:
				got = r.Var()
			case 4:
				s = r.Bin()
			}
			if got != numbers[i] || s != texts[i] || r.Err() != api.OK {
				t.Fatalf("kind %d: %d, want %d; %x, want %x; %d", kind, got, numbers[i], s, texts[i], r.Err())
			}
		}
		if r.Left() != 0 {
			t.Fatal(r.Left(), "left")
		}
	}
}

// P1.2: of all bytes, those that are taken as a Var are laid again by just these.
func TestP1_2TakenIsLaid(t *testing.T) {
	edges := []byte{0, 1, 2, 126, 127, 128, 129, 130, 254, 255}
	var check func(b []byte, depth int)
	check = func(b []byte, depth int) {
		r := wire.Read(b)
		n := r.Var()
		taken := b[:len(b)-r.Left()]
		if r.Err() == api.OK && !bytes.Equal(wire.Var(nil, n), taken) {
			t.Errorf("%x taken as %d, laid as %x", taken, n, wire.Var(nil, n))
		}
		if r.Err() == api.OK && wire.VarSize(n) != len(taken) {
			t.Errorf("%x has %d bytes", taken, wire.VarSize(n))
		}
		if depth == 0 {
			return
		}
		for _, c := range edges {
			check(append(bytes.Clone(b), c), depth-1)
		}
	}
	check(nil, 5)
	for x := range 1 << 16 {
		check([]byte{byte(x >> 8), byte(x)}, 0)
	}
}

// P1.2: numbers and Bins that are taken are laid again by just their bytes.
func TestP1_2FixedTakenIsLaid(t *testing.T) {
	for x := range 1 << 16 {
		b := []byte{byte(x >> 8), byte(x)}
		if !bytes.Equal(wire.Two(nil, wire.Read(b).Two()), b) {
			t.Fatalf("Two of %x", b)
		}
		b = []byte{byte(x), byte(x >> 8), byte(x >> 4), byte(x >> 12)}
		if !bytes.Equal(wire.Four(nil, wire.Read(b).Four()), b) {
			t.Fatalf("Four of %x", b)
		}
		if !bytes.Equal(wire.Byte(nil, wire.Read(b).Byte()), b[:1]) {
			t.Fatalf("Byte of %x", b)
		}
	}
	b := []byte("\x00\x03\x00\xFF\x80")
	if !bytes.Equal(wire.Bin(nil, wire.Read(b).Bin()), b) {
		t.Error("Bin")
	}
}

// P1.3: bytes behind a Reader's own, in the same memory, or of the Reader it is a Sub of, are never taken.
func TestP1_3NothingBeyondItsOwn(t *testing.T) {
	all := []byte("\x00\x04abcdefgh")
	for name, take := range map[string]func(r *wire.Reader){
		"Four": func(r *wire.Reader) { r.Two(); r.Four() },
		"Bin":  func(r *wire.Reader) { r.Bin() },
		"Sub":  func(r *wire.Reader) { r.Sub(6) },
		"Byte": func(r *wire.Reader) { r.Four(); r.Byte(); r.Byte() },
		"Two":  func(r *wire.Reader) { r.Four(); r.Two() },
	} {
		own := wire.Read(all[:5])
		take(own)
		if own.Err() != api.ErrShort {
			t.Errorf("%s of a piece: %d", name, own.Err())
		}
		outer := wire.Read(all)
		sub := outer.Sub(5)
		take(sub)
		if sub.Err() != api.ErrShort || outer.Err() != api.OK || outer.Rest() != "defgh" {
			t.Errorf("%s of a Sub: %d, %d", name, sub.Err(), outer.Err())
		}
	}
	r := wire.Read([]byte("\x80\x80\x01")[:2])
	if r.Var(); r.Err() != api.ErrShort {
		t.Error("Var of a piece:", r.Err())
	}
	r = wire.Read(all)
	if r.Sub(5).Rest() != "\x00\x04abc" || r.Left() != 5 {
		t.Error("Rest of a Sub")
	}
}

// layings are all the calls that lay something behind b.
func layings(b []byte) [][]byte {
	return [][]byte{
		wire.Byte(b, 7), wire.Two(b, 7), wire.Four(b, 7), wire.Var(b, 321), wire.Bin(b, "xy"),
		wire.Var(b, api.MaxVar+1), wire.Bin(b, strings.Repeat("q", api.MaxText+1)),
	}
}

// P1.4: b's bytes and spare room stay as they were, and no answer shares memory with b.
func TestP1_4LayingIsNewMemory(t *testing.T) {
	whole := []byte("ab" + strings.Repeat("#", 30))
	kept := bytes.Clone(whole)
	answers := layings(whole[:2])
	if !bytes.Equal(whole, kept) {
		t.Errorf("changed: %x", whole)
	}
	for i, got := range answers {
		want := bytes.Clone(got)
		whole[0], whole[2], whole[3] = 'x', 'y', 'z'
		if !bytes.Equal(got, want) {
			t.Error(i, "hangs on what was handed in")
		}
		got = got[:cap(got)]
		for k := range got {
			got[k] = '!'
		}
		if whole[0] != 'x' || whole[2] != 'y' || whole[4] != '#' {
			t.Error(i, "writes into what was handed in")
		}
		copy(whole, kept)
	}
}

// P1.4: two layings behind the same bytes don't touch each other.
func TestP1_4LayingsApart(t *testing.T) {
	b := wire.Byte(wire.Bin(nil, "abc"), 1)
	x, y := wire.Byte(b, 'x'), wire.Byte(b, 'y')
	if string(x) != "\x00\x03abc\x01x" || string(y) != "\x00\x03abc\x01y" {
		t.Errorf("%x, %x", x, y)
	}
}

// P1.4: a Reader keeps nothing of what was handed in, and changes nothing of it.
func TestP1_4ReaderIsNewMemory(t *testing.T) {
	b := []byte("\x00\x02ab\xC1\x02\x00\x01zcd")
	kept := bytes.Clone(b)
	r := wire.Read(b)
	clear(b)
	if r.Bin() != "ab" || r.Var() != 321 || r.Sub(3).Bin() != "z" || r.Rest() != "cd" || r.Err() != api.OK {
		t.Error("the Reader hangs on what was handed in")
	}
	copy(b, kept)
	r = wire.Read(b)
	r.Bin()
	r.Var()
	r.Sub(3).Rest()
	r.Rest()
	r.Byte()
	if !bytes.Equal(b, kept) {
		t.Errorf("changed: %x", b)
	}
}
