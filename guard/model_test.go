package guard_test

import (
	"fmt"
	"slices"
	"strconv"
	"testing"

	"pouch/alias"
	"pouch/api"
	"pouch/decode"
	"pouch/encode"
	"pouch/guard"
	"pouch/ids"
	"pouch/packet"
	"pouch/prop"
)

type (
	pack  = packet.Packet
	prs   = []prop.Prop
	deed  = guard.Action
	piece struct {
		side int
		b    string
	}
)

// taken is what the document lets a side say of what it takes.
type taken struct {
	receive, alias, size, qos     int
	retain, wild, number, sharing bool
}

// model is the document's automaton, told by its words: it hangs on decode alone, and keeps all that came.
type model struct {
	version, most int
	phase         string // fresh, connected, open, over
	turn          string // client, server, nobody
	connect       pack
	sent          [2]string // what came of each side that isn't looked at yet
	none          [2]bool   // is the side's first packet still to come?
	takes         [2]taken
	ids           [2]map[uint16][2]int
	aliases       [2]map[uint16]string
}

var sideNames = [2]string{"client", "server"}

func newModel(version, most int) *model {
	usual := taken{65535, 0, 268435460, 2, true, true, true, true}
	return &model{
		version: version, most: most, phase: "fresh", turn: "nobody", none: [2]bool{true, true}, takes: [2]taken{usual, usual},
		ids:     [2]map[uint16][2]int{{}, {}},
		aliases: [2]map[uint16]string{{}, {}},
	}
}

// has answers the N and A of a packet's first property of an id.
func has(p pack, id uint8) (int, string, bool) {
	for _, q := range p.Props {
		if q.Id == id {
			return int(q.N), q.A, true
		}
	}
	return 0, "", false
}

// says reads what a packet says of what its sender takes.
func (m *model) says(p pack) taken {
	l := taken{65535, 0, 268435460, 2, true, true, true, true}
	for id, to := range map[uint8]*int{33: &l.receive, 34: &l.alias, 39: &l.size, 36: &l.qos} {
		if n, _, ok := has(p, id); ok {
			*to = n
		}
	}
	for id, to := range map[uint8]*bool{37: &l.retain, 40: &l.wild, 41: &l.number, 42: &l.sharing} {
		if n, _, ok := has(p, id); ok {
			*to = n != 0
		}
	}
	return l
}

// feed answers what is to be done with a piece.
func (m *model) feed(side int, b string) []deed {
	var done []deed
	if side != 0 && side != 1 {
		return nil
	}
	m.sent[side] += b
	for m.phase != "over" {
		p, size, err := m.next(side)
		if err == api.ErrShort {
			return done
		}
		code := 0
		if err != api.OK {
			code = map[api.Errno]int{api.ErrMalformed: 129, api.ErrProtocol: 130, api.ErrFirst: 130, api.ErrTooLarge: 149}[err]
		} else {
			code = m.look(side, p, size)
		}
		if code != 0 {
			m.phase = "over"
			return append(done, deed{Kind: guard.Close, Side: side, Code: uint8(code)})
		}
		done = append(done, deed{Kind: guard.Forward, Side: side, Bytes: m.sent[side][:size]})
		m.sent[side] = m.sent[side][size:]
		m.none[side] = false
	}
	return done
}

// next answers a side's next packet, and how long it is, or what is wrong with it.
func (m *model) next(side int) (pack, int, api.Errno) {
	b := []byte(m.sent[side])
	h, err := decode.Head(b)
	size := h.Head + h.Rest
	switch {
	case err != api.OK:
		return pack{}, 0, err
	case size > m.most:
		return pack{}, 0, api.ErrTooLarge
	case side == 0 && m.none[0] && h.Kind != 1:
		return pack{}, 0, api.ErrFirst
	case size > len(b):
		return pack{}, 0, api.ErrShort
	}
	p, err := decode.Decode(m.version, b[:size])
	return p, size, err
}

// look answers the code by which a packet is refused; 0: none, and it is so.
func (m *model) look(side int, p pack, size int) int {
	client := side == 0
	_, _, proves := has(m.connect, 21)
	may := []int{2, 3, 4, 5, 6, 7, 9, 11, 13, 15}
	if m.version == 5 {
		may = append(may, 14)
	}
	switch {
	case client && (p.Kind == 2 || p.Kind == 9 || p.Kind == 11 || p.Kind == 13):
		return 130
	case !client && !slices.Contains(may, p.Kind):
		return 130
	case m.phase == "fresh" && !(client && p.Kind == 1):
		return 130
	case m.phase != "fresh" && p.Kind == 1:
		return 130
	case m.phase == "open" && p.Kind == 2:
		return 130
	case m.phase == "connected" && !client && p.Kind != 2 && p.Kind != 15:
		return 130
	case m.phase == "connected" && client && proves && p.Kind != 15 && p.Kind != 14:
		return 130
	case size > m.takes[1-side].size:
		return 149
	}
	switch p.Kind {
	case 1:
		m.phase, m.connect, m.takes[0] = "connected", p, m.says(p)
		if _, _, ok := has(p, 21); ok {
			m.turn = "server"
		}
	case 2:
		return m.connack(p)
	case 3:
		return m.publish(side, p)
	case 4:
		return m.answered(1-side, p.Id, 1, -1, 0)
	case 5:
		if p.Code >= 128 {
			return m.answered(1-side, p.Id, 2, -1, 0)
		}
		return m.answered(1-side, p.Id, 2, -1, 3)
	case 6:
		return m.answered(side, p.Id, 3, -1, 4)
	case 7:
		return m.answered(1-side, p.Id, 4, -1, 0)
	case 8:
		return m.subscribe(p)
	case 9:
		return m.answered(0, p.Id, 5, len(p.Codes), 0)
	case 10:
		n := 0
		if m.version == 5 {
			n = len(p.Filters)
		}
		return m.opened(0, p.Id, 6, n)
	case 11:
		return m.answered(0, p.Id, 6, len(p.Codes), 0)
	case 14:
		return m.disconnect(client, p)
	case 15:
		return m.auth(side, p)
	}
	return 0
}

func (m *model) connack(p pack) int {
	_, _, given := has(p, 18)
	_, a, also := has(p, 21)
	_, b, proves := has(m.connect, 21)
	failed := p.Code >= 128 || m.version == 4 && p.Code != 0
	switch {
	case p.Present && m.connect.Clean:
		return 130
	case given && m.connect.Client != "":
		return 130
	case also && (!proves || a != b):
		return 130
	case !failed && proves && m.turn != "server":
		return 130
	case failed:
		m.phase = "over"
	default:
		m.phase, m.takes[1], m.turn = "open", m.says(p), "nobody"
	}
	return 0
}

func (m *model) publish(side int, p pack) int {
	l := m.takes[1-side]
	_, _, numbered := has(p, 11)
	short, _, shortens := has(p, 35)
	flying := 0
	for _, row := range m.ids[side] {
		if row[0] <= 4 {
			flying++
		}
	}
	_, used := m.ids[side][p.Id]
	_, known := m.aliases[side][uint16(short)]
	switch {
	case int(p.QoS) > l.qos:
		return 155
	case p.Retain && !l.retain:
		return 154
	case numbered && side == 0:
		return 130
	case shortens && short > l.alias:
		return 148
	case shortens && p.Topic == "" && !known:
		return 130
	case p.QoS != 0 && flying >= l.receive:
		return 147
	case p.QoS != 0 && used:
		return 130
	}
	if shortens && p.Topic != "" {
		m.aliases[side][uint16(short)] = p.Topic
	}
	if p.QoS != 0 {
		m.ids[side][p.Id] = [2]int{int(p.QoS), 0}
	}
	return 0
}

func (m *model) subscribe(p pack) int {
	l := m.takes[1]
	if _, _, numbered := has(p, 11); numbered && !l.number {
		return 161
	}
	for _, f := range p.Filters {
		wild, shares := false, len(f.Text) > 7 && f.Text[:7] == "$share/"
		for _, sign := range f.Text {
			wild = wild || sign == '+' || sign == '#'
		}
		switch {
		case wild && !l.wild:
			return 162
		case shares && !l.sharing:
			return 158
		}
	}
	return m.opened(0, p.Id, 5, len(p.Filters))
}

func (m *model) disconnect(client bool, p pack) int {
	n, _, says := has(p, 17)
	before, _, _ := has(m.connect, 17)
	if client && n != 0 && before == 0 || !client && says {
		return 130
	}
	m.phase = "over"
	return 0
}

func (m *model) auth(side int, p pack) int {
	_, a, _ := has(p, 21)
	_, b, proves := has(m.connect, 21)
	mine := m.turn == sideNames[side]
	switch {
	case !proves || a != b:
		return 130
	case p.Code == 24 && mine:
		m.turn = sideNames[1-side]
	case p.Code == 25 && side == 0 && m.phase == "open" && m.turn == "nobody":
		m.turn = "server"
	case p.Code == 0 && side == 1 && m.phase == "open" && mine:
		m.turn = "nobody"
	default:
		return 130
	}
	return 0
}

// opened: a number comes into use, if it isn't.
func (m *model) opened(side int, id uint16, state, n int) int {
	if _, used := m.ids[side][id]; used {
		return 130
	}
	m.ids[side][id] = [2]int{state, n}
	return 0
}

// answered: a number in a state (and with n codes, if n isn't below 0) comes into another one; 0: out of use.
func (m *model) answered(side int, id uint16, state, n, next int) int {
	row, used := m.ids[side][id]
	if !used || row[0] != state || n >= 0 && row[1] != n {
		return 130
	}
	delete(m.ids[side], id)
	if next != 0 {
		m.ids[side][id] = [2]int{next, 0}
	}
	return 0
}

// rows answers a side's numbers in use, rising.
func (m *model) rows(side int) ids.Table {
	var t ids.Table
	for id, row := range m.ids[side] {
		t = append(t, ids.Row{Id: id, State: row[0], N: row[1]})
	}
	slices.SortFunc(t, func(a, b ids.Row) int { return int(a.Id) - int(b.Id) })
	return t
}

// shorts answers a side's aliases, rising.
func (m *model) shorts(side int) alias.Table {
	var t alias.Table
	for short, name := range m.aliases[side] {
		t = append(t, alias.Row{Alias: short, Topic: name})
	}
	slices.SortFunc(t, func(a, b alias.Row) int { return int(a.Alias) - int(b.Alias) })
	return t
}

// key tells all on which what the model does hangs.
func (m *model) key() string {
	n, _, _ := has(m.connect, 17)
	_, a, proves := has(m.connect, 21)
	return fmt.Sprint(m.phase, m.turn, m.connect.Clean, m.connect.Client, n, a, proves, m.takes, m.rows(0), m.rows(1), m.shorts(0), m.shorts(1), m.sent)
}

// numbered is a Guard's phase, by the model's names.
var numbered = map[string]int{"fresh": guard.Fresh, "connected": guard.Connected, "open": guard.Open, "over": guard.Over}

// pair is a Guard and the model, which are given the same.
type pair struct {
	t *testing.T
	g *guard.Guard
	m *model
	l []piece // what was fed
}

func paired(t *testing.T, version, most int) *pair {
	t.Helper()
	return &pair{t: t, g: made(t, version, most), m: newModel(version, most)}
}

// feed feeds both a piece, and holds what they do, and how they stand, against each other.
func (p *pair) feed(side int, b string) []deed {
	p.t.Helper()
	p.l = append(p.l, piece{side, b})
	got, want := p.g.Feed(side, []byte(b)), p.m.feed(side, b)
	if !slices.Equal(got, want) {
		p.t.Fatalf("version %d, most %d, %s: does %s, want %s", p.m.version, p.m.most, told(p.l), told(got), told(want))
	}
	p.stands()
	return got
}

// stands holds how both stand against each other.
func (p *pair) stands() {
	p.t.Helper()
	if got, want := p.g.Phase(), numbered[p.m.phase]; got != want {
		p.t.Fatalf("version %d, %s: Phase %d, want %d", p.m.version, told(p.l), got, want)
	}
	for side := range 2 {
		if got, want := p.g.Ids(side), p.m.rows(side); !slices.Equal(got, want) {
			p.t.Fatalf("version %d, %s: Ids(%d) %v, want %v", p.m.version, told(p.l), side, got, want)
		}
		if got, want := p.g.Aliases(side), p.m.shorts(side); !slices.Equal(got, want) {
			p.t.Fatalf("version %d, %s: Aliases(%d) %v, want %v", p.m.version, told(p.l), side, got, want)
		}
	}
}

// made answers a Guard that can be.
func made(t *testing.T, version, most int) *guard.Guard {
	t.Helper()
	g, err := guard.New(version, most)
	if g == nil || err != api.OK {
		t.Fatalf("New(%d, %d): %v, %d", version, most, g, err)
	}
	if g.Phase() != guard.Fresh || len(g.Ids(0))+len(g.Ids(1))+len(g.Aliases(0))+len(g.Aliases(1)) != 0 {
		t.Fatalf("New(%d, %d): phase %d, %v %v %v %v", version, most, g.Phase(), g.Ids(0), g.Ids(1), g.Aliases(0), g.Aliases(1))
	}
	return g
}

// told answers a thing in signs that are short enough to be read.
func told(x any) string {
	text := fmt.Sprintf("%+v", x)
	return strconv.Quote(text[:min(len(text), 600)])
}

// laid answers the bytes of a packet that may be.
func laid(t *testing.T, version int, p pack) string {
	t.Helper()
	b, err := encode.Encode(version, p)
	if err != api.OK {
		t.Fatalf("version %d: kind %d may not be: %.200v", version, p.Kind, p)
	}
	return string(b)
}
