package audit_test

import (
	"math"
	"math/rand"
	"slices"
	"testing"

	"pouch/api"
	"pouch/audit"
	"pouch/decode"
	"pouch/guard"
	"pouch/script"
)

// stands answers a Guard to which all Forwards of a list were given.
func stands(version int, l []deed) *guard.Guard {
	g, _ := guard.New(version, 268435460)
	for _, act := range l {
		if act.Kind == guard.Forward {
			g.Feed(act.Side, []byte(act.Bytes))
		}
	}
	return g
}

// words answers all words of the document that are so of the last Action, in its order.
func words(version int, l []deed) []string {
	var out []string
	act, ahead := l[len(l)-1], l[:len(l)-1]
	say := func(so bool, word string) {
		if so {
			out = append(out, word)
		}
	}
	goes, closes := act.Kind == 1, act.Kind == 2
	say(version < 4 || version > 5, "version")
	say(!goes && !closes || act.Side < 0 || act.Side > 1 || goes && act.Code > 0 || closes && (act.Code == 0 || len(act.Bytes) > 0), "kind")
	closed := slices.ContainsFunc(ahead, func(a deed) bool { return a.Kind == 2 })
	say(closed || stands(version, ahead).Phase() == guard.Over, "after")
	_, err := decode.Decode(version, []byte(act.Bytes))
	say(goes && err != 0, "bytes")
	say(goes && !slices.Equal(stands(version, ahead).Feed(act.Side, []byte(act.Bytes)), []deed{act}), "refused")
	return out
}

// hold holds Check against the document's words.
func hold(t *testing.T, version int, l []deed) string {
	t.Helper()
	for n := range l {
		if all := words(version, l[:n+1]); len(all) > 0 {
			says(t, version, l, all[0], n)
			return all[0]
		}
	}
	says(t, version, l, "", -1)
	return ""
}

// P16.1: all lists of three Actions at most, of some that are right and some that are wrong.
func TestP16_1All(t *testing.T) {
	for _, version := range versions {
		other := greeted(9 - version)
		pool := then(greeted(version), on(c, "\xC0\x00"), on(s, "\xD0\x00"), on(s, "\xC0\x00"), on(c, "\xE0\x00"), on(s, "\xE0\x00"), on(c, "\x40\x02\x00\x01"),
			on(c, "\x40\x02\x00\x00"), on(s, ""), on(c, "\xC0\x00\x00"), on(2, "\xC0\x00"), other[0], other[1],
			shut(c, 130), shut(s, 129), shut(c, 0), shut(-1, 130), deed{Kind: guard.Close, Code: 130, Bytes: "x"}, deed{Kind: guard.Forward, Code: 1, Bytes: "\xC0\x00"}, deed{}, deed{Kind: 3, Bytes: "\xC0\x00"})
		seen := map[string]int{}
		for _, a := range pool {
			seen[hold(t, version, []deed{a})]++
			for _, b := range pool {
				seen[hold(t, version, []deed{a, b})]++
				hold(t, version+2, []deed{a, b})
				for _, d := range pool {
					seen[hold(t, version, []deed{a, b, d})]++
				}
			}
		}
		for _, word := range []string{"", "kind", "after", "bytes", "refused"} {
			if seen[word] == 0 {
				t.Errorf("%q is never said: %v", word, seen)
			}
		}
	}
}

// closes says whether a script's talk ends with a Close.
func closes(b []byte) bool {
	l := script.Run(script.Read(b))
	return len(l) > 0 && l[len(l)-1].Kind == guard.Close
}

// talk answers bytes of a script of which mostly much goes on: of some triples one that doesn't end it.
func talk(r *rand.Rand) []byte {
	b := []byte{byte(r.Intn(256)), byte(r.Intn(256)), 0, 133, byte(r.Intn(256)), 1, 1, byte(r.Intn(256))}
	for range r.Intn(60) {
		for tries := r.Intn(12); tries >= 0; tries-- {
			more := append(b[:len(b):len(b)], byte(2+r.Intn(14)+128*r.Intn(2)), byte(r.Intn(256)), byte(r.Intn(256)))
			if tries == 0 || !closes(more) {
				b = more
				break
			}
		}
	}
	return b
}

// spoil changes a list of Actions somewhere.
func spoil(r *rand.Rand, l []deed) []deed {
	if len(l) == 0 {
		return []deed{{}}
	}
	l = slices.Clone(l)
	i, j := r.Intn(len(l)), r.Intn(len(l))
	switch r.Intn(9) {
	case 0:
		l[i], l[j] = l[j], l[i]
	case 1:
		l = slices.Insert(l, i, l[j])
	case 2:
		l = slices.Delete(l, i, i+1)
	case 3:
		l[i].Side = []int{0, 1, 1 - l[i].Side, 2, -1}[r.Intn(5)]
	case 4:
		l[i].Kind = r.Intn(4)
	case 5:
		l[i].Code = uint8(r.Intn(256))
	case 6:
		b := []byte(l[i].Bytes + "x")
		b[r.Intn(len(b))] = byte(r.Intn(256))
		l[i].Bytes = string(b[:len(b)-r.Intn(2)])
	case 7:
		l[i].Bytes += l[j].Bytes
	case 8:
		l = slices.Insert(l, i, shut(r.Intn(2), uint8(r.Intn(256))))
	}
	return l
}

// P16.1, P16.2: what Guards did is right; what is changed of it is as the document says.
func TestP16_2Talks(t *testing.T) {
	r := rand.New(rand.NewSource(16))
	seen := map[string]int{}
	for range 600 {
		one := script.Read(talk(r))
		l := script.Run(one)
		says(t, one.Version, l, "", -1)
		if len(l) == 0 {
			continue
		}
		says(t, one.Version, l[:r.Intn(len(l))], "", -1)
		seen[hold(t, one.Version, spoil(r, l))]++
		seen[hold(t, one.Version, spoil(r, spoil(r, l)))]++
		seen[hold(t, 9-one.Version, l)]++
	}
	for _, word := range []string{"", "kind", "after", "bytes", "refused"} {
		if seen[word] == 0 {
			t.Errorf("%q is never said: %v", word, seen)
		}
	}
}

// P16.2: what a Guard does with any cuts, of few bytes at most, and of bytes that are none, is right.
func TestP16_2Cuts(t *testing.T) {
	r := rand.New(rand.NewSource(2))
	closed := map[uint8]int{}
	longest := 0
	for range 600 {
		one := script.Read(talk(r))
		g, err := guard.New(one.Version, 10+r.Intn(100))
		if err != api.OK {
			t.Fatal(err)
		}
		var l []deed
		for _, e := range one.Events {
			b := []byte(e.Bytes)
			if r.Intn(50) == 0 && len(b) > 0 {
				b[r.Intn(len(b))] = byte(r.Intn(256))
			}
			for len(b) > 0 {
				n := 1 + r.Intn(len(b))
				l = append(l, g.Feed(e.Side, b[:n])...)
				b = b[n:]
			}
		}
		says(t, one.Version, l, "", -1)
		if n := len(l); n > 0 {
			closed[l[n-1].Code]++
			longest = max(longest, n)
		}
	}
	for _, code := range []uint8{0, 129, 130, 147, 148, 149} {
		if closed[code] == 0 {
			t.Errorf("no talk ends with %d: %v", code, closed)
		}
	}
	if longest < 30 {
		t.Errorf("the longest talk is of %d", longest)
	}
}

// P16.2: of a Guard that New didn't make there is nothing to say either.
func TestP16_2Unmade(t *testing.T) {
	var nobody *guard.Guard
	for _, version := range versions {
		for _, b := range []string{"", "\xC0\x00", greeted(version)[0].Bytes} {
			says(t, version, nobody.Feed(c, []byte(b)), "", -1)
			says(t, version, new(guard.Guard).Feed(c, []byte(b)), "", -1)
		}
	}
}

// P16.3: Actions that are handed in stay as they are, behind their end too, and aren't kept; Kinds are new each time.
func TestP16_3Memory(t *testing.T) {
	r := rand.New(rand.NewSource(3))
	for range 200 {
		one := script.Read(talk(r))
		room := append(script.Run(one), shut(c, 130), deed{Kind: 7, Side: 7, Code: 7, Bytes: "spare"})
		before := slices.Clone(room)
		l := room[:r.Intn(len(room)-1)]
		word, place := audit.Check(one.Version, l)
		kinds := audit.Kinds(one.Version, l)
		if !slices.Equal(room, before) {
			t.Fatalf("%s is changed to %s", told(before), told(room))
		}
		want := slices.Clone(kinds)
		clear(room)
		if !slices.Equal(kinds, want) {
			t.Fatalf("%v, want %v", kinds, want)
		}
		clear(kinds)
		_ = append(kinds, 7, 7, 7)
		says(t, one.Version, before[:len(l)], word, place)
		if again := audit.Kinds(one.Version, before[:len(l)]); !slices.Equal(again, want) {
			t.Fatalf("%v, want %v", again, want)
		}
	}
}

// P1: all calls end, whatever they are given.
func TestP1AnyArguments(t *testing.T) {
	r := rand.New(rand.NewSource(1))
	ints := []int{math.MinInt, -1, 0, 1, 2, 3, 4, 5, 6, 1 << 32, math.MaxInt}
	for range 20000 {
		var l []deed
		for range r.Intn(6) {
			b := make([]byte, r.Intn(20))
			r.Read(b)
			l = append(l, deed{Kind: ints[r.Intn(len(ints))], Side: ints[r.Intn(len(ints))], Code: uint8(r.Intn(256)), Bytes: string(b)})
		}
		version := ints[r.Intn(len(ints))]
		audit.Check(version, l)
		audit.Kinds(version, l)
		for i := range l {
			l[i].Kind, l[i].Side, l[i].Code = 1+r.Intn(2), r.Intn(2), 0
		}
		audit.Check(4+r.Intn(2), l)
		audit.Kinds(4+r.Intn(2), l)
	}
}
