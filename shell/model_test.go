package shell_test

import (
	"fmt"
	"math/rand"
	"regexp"
	"slices"
	"strconv"
	"strings"
	"testing"

	"pouch/api"
	"pouch/audit"
	"pouch/decode"
	"pouch/guard"
	"pouch/packet"
	"pouch/script"
	"pouch/shell"
)

// model does what the document says of lines, by the layers below.
type model struct {
	version, most int
	guard         *guard.Guard
	began         int // the guard's version
	acts          []guard.Action
}

// The lines that there are.
var (
	aNumber = regexp.MustCompile(`\A(version|most) (0|[1-9][0-9]{0,5}|1000000)\z`)
	aTable  = regexp.MustCompile(`\A(ids|aliases) ([cs])\z`)
	aDecode = regexp.MustCompile(`\Adecode (-|(?:[0-9a-f][0-9a-f])+)\z`)
	anEvent = regexp.MustCompile(`\A([cs]) (-|(?:[0-9a-f][0-9a-f])+)\z`)
)

func newModel() *model {
	return &model{version: 5, most: 1024}
}

// do answers a line's reply.
func (m *model) do(line string) string {
	if l := aNumber.FindStringSubmatch(line); l != nil {
		n, _ := strconv.Atoi(l[2])
		*map[string]*int{"version": &m.version, "most": &m.most}[l[1]] = n
		return "ok"
	}
	if l := aDecode.FindStringSubmatch(line); l != nil {
		p, err := decode.Decode(m.version, unhex(l[1]))
		return map[api.Errno]string{0: packet.Name(p.Kind), 1: "argument", 3: "malformed", 4: "protocol"}[err]
	}
	if line == "begin" {
		g, err := guard.New(m.version, m.most)
		if err != 0 {
			return "argument"
		}
		m.guard, m.began, m.acts = g, m.version, nil
		return "ok"
	}
	event, table := anEvent.FindStringSubmatch(line), aTable.FindStringSubmatch(line)
	switch {
	case event == nil && table == nil && line != "phase" && line != "check":
		return "what"
	case m.guard == nil:
		return "no guard"
	case line == "phase":
		return []string{"fresh", "connected", "open", "over"}[m.guard.Phase()]
	case line == "check":
		word, _ := audit.Check(m.began, m.acts)
		return map[bool]string{true: "ok", false: word}[word == ""]
	case table != nil:
		return m.table(table[1], strings.Index("cs", table[2]))
	}
	acts := m.guard.Feed(strings.Index("cs", event[1]), unhex(event[2]))
	m.acts = append(m.acts, acts...)
	return tell(m.began, acts)
}

// table answers what is told of a side's rows.
func (m *model) table(which string, side int) string {
	var l []string
	if which == "ids" {
		for _, r := range m.guard.Ids(side) {
			l = append(l, fmt.Sprintf("%d %d %d", r.Id, r.State, r.N))
		}
	} else {
		for _, r := range m.guard.Aliases(side) {
			l = append(l, fmt.Sprintf("%d %s", r.Alias, r.Topic))
		}
	}
	return listed(l)
}

// tell answers what is told of Actions.
func tell(version int, acts []guard.Action) string {
	var l []string
	for _, act := range acts {
		if act.Kind == 2 {
			l = append(l, fmt.Sprintf("close %c %d", "cs"[act.Side], act.Code))
			continue
		}
		kinds := audit.Kinds(version, []guard.Action{act})
		l = append(l, fmt.Sprintf("forward %c %s", "cs"[act.Side], packet.Name(kinds[0])))
	}
	return listed(l)
}

func listed(l []string) string {
	if len(l) == 0 {
		return "none"
	}
	return strings.Join(l, ";")
}

// unhex answers the bytes of a line.
func unhex(s string) []byte {
	if s == "-" {
		return nil
	}
	var b []byte
	for i := 0; i < len(s); i += 2 {
		n, _ := strconv.ParseUint(s[i:i+2], 16, 8)
		b = append(b, byte(n))
	}
	return b
}

// both are a Shell and a model that were given the same lines.
type both struct {
	shell *shell.Shell
	model *model
}

func newBoth() both {
	return both{shell.New(), newModel()}
}

// do holds a line's reply against the model's, and answers it.
func (b both) do(t *testing.T, line string) string {
	t.Helper()
	got, want := b.shell.Do(line), b.model.do(line)
	if got != want {
		t.Fatalf("%.300q: %.300q, want %.300q", line, got, want)
	}
	return got
}

// draw answers a script of which mostly much goes on: of some triples one that doesn't end it, and answers more often than what is answered.
func draw(r *rand.Rand) script.Script {
	rows := []int{2, 3, 4, 5, 7, 8, 8, 9, 9, 9, 10, 10, 10, 10, 11, 12, 12, 13, 14, 15}
	b := []byte{byte(r.Intn(256)), byte(4 + r.Intn(252)), 0, 133, byte(r.Intn(256)), 1, 1, byte(r.Intn(256))}
	for range r.Intn(50) {
		var more []byte
		for range 1 + r.Intn(14) {
			more = append(b[:len(b):len(b)], byte(rows[r.Intn(len(rows))]+128*r.Intn(2)), byte(r.Intn(256)), byte(r.Intn(256)))
			acts := script.Run(script.Read(more))
			if len(acts) == 0 || acts[len(acts)-1].Kind == guard.Forward {
				break
			}
		}
		b = more
	}
	return script.Read(b)
}

// pieces answers the Lines of a script's Events, of which some are cut, put together, or spoiled, of a hundred so many.
func pieces(r *rand.Rand, one script.Script, spoiled int) []string {
	var l []string
	var waits script.Event
	for _, e := range one.Events {
		b := []byte(e.Bytes)
		if len(b) > 0 && r.Intn(100) < spoiled {
			b[r.Intn(len(b))] = byte(r.Intn(256))
		}
		if e.Side != waits.Side || r.Intn(3) > 0 {
			l = append(l, script.Line(waits))
			waits = script.Event{Side: e.Side}
		}
		n := r.Intn(len(b) + 1)
		if r.Intn(3) == 0 {
			l = append(l, script.Line(script.Event{Side: e.Side, Bytes: waits.Bytes + string(b[:n])}))
			waits.Bytes, b = "", b[n:]
		}
		waits.Bytes += string(b)
	}
	return append(l, script.Line(waits))
}

// other answers a line that isn't of a talk.
func other(r *rand.Rand, l []string) string {
	asked := []string{"phase", "check", "ids c", "ids s", "aliases c", "aliases s"}
	switch r.Intn(12) {
	case 0:
		return []string{"version 4", "version 5", "version 6", "most 1000", "most 1", "most 300", "begin"}[r.Intn(7)]
	case 1:
		return "decode " + l[r.Intn(len(l))][2:]
	case 2, 3:
		b := []byte(slices.Concat(asked, l)[r.Intn(len(asked)+len(l))])
		b[r.Intn(len(b))] = " cs-0a;A\n"[r.Intn(9)]
		return string(b)
	}
	return asked[r.Intn(len(asked))]
}

// play gives a talk to both, and other lines between, of a hundred so many, and answers all of them.
func play(t *testing.T, b both, r *rand.Rand, often int, heard func(line, reply string)) []string {
	one := draw(r)
	talk := pieces(r, one, 1)
	lines := []string{"version " + strconv.Itoa(one.Version), "most " + strconv.Itoa(one.Most), "begin"}
	for _, line := range talk {
		lines = append(lines, line)
		for r.Intn(100) < often {
			lines = append(lines, other(r, talk))
		}
	}
	for _, line := range lines {
		heard(line, b.do(t, line))
	}
	return lines
}

// P17.1, P9: lines tell just what the layers below do: made talks, and all that may be asked of them.
func TestP17_1P9Talks(t *testing.T) {
	r := rand.New(rand.NewSource(17))
	seen := map[string]int{}
	for range 1000 {
		b := newBoth()
		for range 1 + r.Intn(3) {
			play(t, b, r, 40, func(line, reply string) {
				for _, said := range strings.Split(reply, ";") {
					seen[said]++
				}
				if strings.HasPrefix(line, "ids ") || strings.HasPrefix(line, "aliases ") {
					seen[strings.Fields(line)[0]+strconv.Itoa(strings.Count(reply, ";"))]++
				}
			})
		}
	}
	for _, said := range []string{"ok", "what", "none", "argument", "malformed", "protocol", "fresh", "connected", "open", "over",
		"forward c connect", "forward s connack", "forward c publish", "forward s publish", "forward c puback", "forward s puback", "forward c pubrec", "forward s pubrec", "forward c pubrel", "forward s pubrel", "forward c pubcomp", "forward s pubcomp",
		"forward c subscribe", "forward s suback", "forward c unsubscribe", "forward s unsuback", "forward c pingreq", "forward s pingresp", "forward c disconnect", "forward s disconnect", "forward c auth", "forward s auth",
		"close c 129", "close s 129", "close c 130", "close s 130", "close c 147", "close s 147", "close c 148", "close s 148", "close c 155", "close c 162",
		"1 1 0", "2 2 0", "3 3 0", "1 4 0", "2 5 1", "2 5 2", "3 6 1", "3 6 0", "1 t", "2 t", "ids2", "aliases1"} {
		if seen[said] == 0 {
			t.Errorf("%q is never told", said)
		}
	}
}

// P9: what lines tell of a script is told of what Run answers.
func TestP9Run(t *testing.T) {
	r := rand.New(rand.NewSource(9))
	for range 1000 {
		one := draw(r)
		lines := []string{"version " + strconv.Itoa(one.Version), "most " + strconv.Itoa(one.Most), "begin"}
		for _, e := range one.Events {
			lines = append(lines, script.Line(e))
		}
		var told []string
		for _, reply := range shell.Lines(lines)[3:] {
			if reply != "none" {
				told = append(told, reply)
			}
		}
		if want := tell(one.Version, script.Run(one)); listed(told) != want {
			t.Fatalf("%q: %q, want %q", lines, told, want)
		}
	}
}

// P17.1, P9: all lines of three words at most, of some, with a guard and without one.
func TestP17_1P9Words(t *testing.T) {
	words := []string{"", "c", "s", "-", "version", "most", "begin", "phase", "ids", "aliases", "decode", "check", "what", "0", "00", "4", "04", "5", "6", "1000000", "1000001", "c000", "c00", "C000", "d000", "40020007", "40020000", connect4[2:], connack4[2:], connect5[2:], connack5[2:]}
	var lines []string
	for _, a := range words {
		lines = append(lines, a)
		for _, b := range words {
			lines = append(lines, a+" "+b)
			for _, c := range words {
				lines = append(lines, a+" "+b+" "+c)
			}
		}
	}
	for _, ahead := range [][]string{nil, {"version 4"}, {"version 6"}, {"begin"}, {"version 4", "begin"}, {"version 4", "begin", connect4}, {"version 4", "begin", connect4, connack4}, {"begin", connect5, connack5}, {"begin", connect5, connack5, "version 4"}, {"begin", "s c000"}} {
		b := newBoth()
		for _, line := range lines {
			b = newBoth()
			for _, line := range ahead {
				b.do(t, line)
			}
			b.do(t, line)
			b.do(t, "phase")
		}
		// All behind one another, too, of one Shell.
		for _, line := range lines {
			b.do(t, line)
		}
	}
}

// P17.1, P9: all short lines of some signs.
func TestP17_1P9Signs(t *testing.T) {
	b := newBoth()
	b.do(t, "begin")
	signs := "cs -0a1\n;"
	var grow func(line string, left int)
	grow = func(line string, left int) {
		b.do(t, line)
		for i := 0; left > 0 && i < len(signs); i++ {
			grow(line+signs[i:i+1], left-1)
		}
	}
	grow("", 5)
	for _, ahead := range []string{"version", "most", "ids", "aliases", "decode", "begin", "phase", "check", "c 10"} {
		grow(ahead, 3)
	}
}

// P17.2: what a Shell answers hangs on its own lines, whatever others are given, and when.
func TestP17_2Alone(t *testing.T) {
	r := rand.New(rand.NewSource(2))
	for range 100 {
		talks := make([][]string, 3)
		replies := make([][]string, 3)
		shells := make([]*shell.Shell, 3)
		for i := range talks {
			shells[i] = shell.New()
			one := newBoth()
			keep := func(line, reply string) { replies[i] = append(replies[i], reply) }
			talks[i] = append(play(t, one, r, 30, keep), play(t, one, r, 30, keep)...)
		}
		next := make([]int, 3)
		for slices.ContainsFunc([]int{0, 1, 2}, func(i int) bool { return next[i] < len(talks[i]) }) {
			i := r.Intn(3)
			if n := next[i]; n < len(talks[i]) {
				if got := shells[i].Do(talks[i][n]); got != replies[i][n] {
					t.Fatalf("%q: %q, want %q", talks[i][n], got, replies[i][n])
				}
				next[i]++
			}
		}
		for i := range talks {
			before := slices.Clone(talks[i])
			first := shell.Lines(talks[i])
			again := shell.Lines(talks[i])
			if !slices.Equal(first, replies[i]) || !slices.Equal(again, replies[i]) || !slices.Equal(talks[i], before) {
				t.Fatalf("%q: %q, %q, want %q", before, first, again, replies[i])
			}
		}
	}
}

// P17.2: Lines leaves what it is given, behind its end too; what it answers is new each time.
func TestP17_2Memory(t *testing.T) {
	room := []string{"begin", connect5, connack5, "phase", "check", "ids c", "spare", "spare"}
	before := slices.Clone(room)
	l := room[:6]
	got := shell.Lines(l)
	want := []string{"ok", "forward c connect", "forward s connack", "open", "ok", "none"}
	if !slices.Equal(got, want) || !slices.Equal(room, before) {
		t.Fatalf("%q, %q", got, room)
	}
	clear(got)
	_ = append(got, "x", "x")
	if again := shell.Lines(l); !slices.Equal(again, want) || !slices.Equal(room, before) {
		t.Fatalf("%q, %q", again, room)
	}
}

// P17.3: whatever lines there were, check is ok.
func TestP17_3Check(t *testing.T) {
	r := rand.New(rand.NewSource(3))
	over, long := 0, 0
	for range 400 {
		s := shell.New()
		if got := s.Do("check"); got != "no guard" {
			t.Fatal(got)
		}
		for range 1 + r.Intn(3) {
			one := draw(r)
			l := pieces(r, one, 2*r.Intn(2))
			says(t, s, "version "+strconv.Itoa(one.Version), "ok", "most "+strconv.Itoa(one.Most), "ok", "begin", "ok", "check", "ok")
			forwards := 0
			for i, line := range l {
				if r.Intn(8) == 0 {
					s.Do(other(r, l))
				}
				if r.Intn(200) == 0 {
					line = l[r.Intn(len(l))]
				}
				forwards += strings.Count(s.Do(line), "forward")
				if got := s.Do("check"); got != "ok" {
					t.Fatalf("%q: behind line %d: %q", l, i, got)
				}
			}
			long = max(long, forwards)
			if s.Do("phase") == "over" {
				over++
			}
		}
	}
	if over < 50 || long < 20 {
		t.Errorf("%d are over, the longest is of %d", over, long)
	}
}

// P17.3: of bytes that are none, too, in whatever version and with whatever most.
func TestP17_3AnyBytes(t *testing.T) {
	r := rand.New(rand.NewSource(4))
	for range 2000 {
		s := begun(t, 4+r.Intn(2))
		for range 1 + r.Intn(6) {
			b := make([]byte, r.Intn(8))
			r.Read(b)
			if len(b) > 1 {
				b[1] = byte(r.Intn(6))
			}
			s.Do(script.Line(script.Event{Side: r.Intn(2), Bytes: string(b)}))
			s.Do([]string{"version 4", "version 5", "version 9", "most 1", "begin"}[r.Intn(5)])
			if got := s.Do("check"); got != "ok" {
				t.Fatal(got)
			}
		}
	}
}

// P1: all calls end, whatever the line; what is none of the lines is what.
func TestP1AnyLines(t *testing.T) {
	r := rand.New(rand.NewSource(1))
	b := newBoth()
	for i := range 100000 {
		line := make([]byte, r.Intn(12))
		r.Read(line)
		b.do(t, string(line))
		if i%1000 == 0 {
			b.do(t, "begin")
		}
	}
	for _, s := range []string{" ", "c", "c ", "00", "-", "1", "0", "\n", "\xff", "ä"} {
		long := strings.Repeat(s, 1<<20)
		for _, ahead := range []string{"", "c ", "s ", "decode ", "version ", "most ", "ids ", "aliases ", "phase ", "begin", "check "} {
			b.do(t, ahead+long)
		}
	}
	unmade := new(shell.Shell)
	for _, line := range []string{"", "phase", "check", "ids c", "aliases s", connect4, "decode c000", "begin", "most 5", "begin", "version 4", "begin", "phase", "check", connect4, "check"} {
		unmade.Do(line)
	}
}

// P17.3: a packet as long as may be asked for goes on whole, and is checked.
func TestP17_3Longest(t *testing.T) {
	s := begun(t, 4)
	says(t, s, "version 4", "ok", "most 1000000", "ok", "begin", "ok", connect4, "forward c connect", connack4, "forward s connack")
	says(t, s, "c 30bc843d000161"+strings.Repeat("78", 1000000-4-3), "forward c publish", "check", "ok", "c 30bd843d000161", "close c 149", "check", "ok")
}
