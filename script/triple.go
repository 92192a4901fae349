package script

import (
	"strings"

	"pouch/api"
	"pouch/encode"
	"pouch/guard"
	"pouch/packet"
	"pouch/prop"
)

// What is named, and wanted.
const (
	client = "a"
	method = "m"
	name   = "t"
	load   = "x"
	wild   = "a/+"
	plain  = "b"
)

// From these values on a byte says something else.
const (
	upperHalf = 128 // of x: the server; of y: a client's name, no topic
	refuses   = 240 // of y: a Connack does
	fails     = 200 // of z: a Pubrec does
	leaves    = 250 // of z: a side does
	noPacket  = 255 // of z: it is none
)

// How x says which packet it is, and y when it is cut.
const (
	rows   = 16
	cutsOf = 7
)

// triple is three bytes that say a packet.
type triple struct {
	version int
	x, y, z byte
}

// option is a property that there is where a bit is 1.
type option struct {
	bit byte
	p   prop.Prop
}

// events answers what a side sends: at once, or in two pieces.
func (t triple) events() []Event {
	side, b := t.sends()
	if t.y%cutsOf != 0 {
		return []Event{{Side: side, Bytes: string(b)}}
	}
	half := len(b) / 2
	return []Event{{Side: side, Bytes: string(b[:half])}, {Side: side, Bytes: string(b[half:])}}
}

// sends answers a side, and its bytes.
func (t triple) sends() (int, []byte) {
	if t.row() == 15 && t.z == noPacket {
		return t.side(), []byte{t.y}
	}
	p := t.packet()
	// Each packet of a row is one that may be, so there is no error.
	b, _ := encode.Encode(t.version, p)
	switch p.Kind {
	case api.Connect, api.Subscribe:
		return guard.Client, b
	case api.Connack, api.Suback:
		return guard.Server, b
	}
	return t.side(), b
}

func (t triple) row() int {
	return int(t.x % rows)
}

// side answers who sends it where its row names nobody.
func (t triple) side() int {
	if t.x >= upperHalf {
		return guard.Server
	}
	return guard.Client
}

// id answers the number of what has one.
func (t triple) id() uint16 {
	return uint16(1 + t.y%3)
}

func (t triple) packet() packet.Packet {
	switch t.row() {
	case 0:
		return t.connect()
	case 1:
		return t.connack()
	case 2, 3, 4, 5, 6:
		return t.publish()
	case 7:
		return packet.Packet{Kind: api.Puback, Id: t.id()}
	case 8:
		return packet.Packet{Kind: api.Pubrec, Id: t.id(), Code: t.code(t.z >= fails, 128, 0)}
	case 9:
		return packet.Packet{Kind: api.Pubrel, Id: t.id()}
	case 10:
		return packet.Packet{Kind: api.Pubcomp, Id: t.id()}
	case 11:
		return t.subscribe()
	case 12:
		return packet.Packet{Kind: api.Suback, Id: t.id(), Codes: make([]uint8, 1+t.z%2)}
	case 13:
		return t.unwanted()
	case 14:
		return t.idle(t.z)
	}
	return t.auth()
}

// chosen answers the properties whose bits are 1.
func (t triple) chosen(bits byte, l ...option) []prop.Prop {
	if t.version != api.V5 {
		return nil
	}
	var chosen []prop.Prop
	for _, o := range l {
		if bits&o.bit != 0 {
			chosen = append(chosen, o.p)
		}
	}
	return chosen
}

// code answers, if it is so, the code that a version has for it.
func (t triple) code(so bool, five, four uint8) uint8 {
	switch {
	case !so:
		return 0
	case t.version == api.V5:
		return five
	}
	return four
}

// receive answers how many messages are taken at once.
func (t triple) receive() uint32 {
	return 1 + uint32(t.z/2%3)
}

func (t triple) connect() packet.Packet {
	p := packet.Packet{Kind: api.Connect, Clean: odd(t.y) || t.version == api.V4 && t.y < upperHalf}
	if t.y >= upperHalf {
		p.Client = client
	}
	p.Props = t.chosen(t.z,
		option{64, prop.Prop{Id: 17, N: 5}},
		option{32, prop.Prop{Id: 21, A: method}},
		option{1, prop.Prop{Id: 33, N: t.receive()}},
		option{16, prop.Prop{Id: 34, N: 2}})
	return p
}

func (t triple) connack() packet.Packet {
	p := packet.Packet{Kind: api.Connack, Code: t.code(t.y >= refuses, 128, 5)}
	p.Props = t.chosen(t.z,
		option{32, prop.Prop{Id: 21, A: method}},
		option{1, prop.Prop{Id: 33, N: t.receive()}},
		option{16, prop.Prop{Id: 34, N: 2}},
		option{64, prop.Prop{Id: 36, N: 1}},
		option{128, prop.Prop{Id: 40}})
	return p
}

func (t triple) publish() packet.Packet {
	p := packet.Packet{Kind: api.Publish, QoS: t.z % 3, Topic: name, Load: strings.Repeat(load, int(t.z/3%4))}
	if p.QoS != 0 {
		p.Id = t.id()
	}
	p.Props = t.chosen(t.y, option{16, prop.Prop{Id: 35, N: 1 + uint32(t.y/32%2)}})
	if len(p.Props) > 0 && t.y >= upperHalf {
		p.Topic = ""
	}
	return p
}

func (t triple) subscribe() packet.Packet {
	p := packet.Packet{Kind: api.Subscribe, Id: t.id(), Filters: []packet.Filter{{Text: wild, Opt: 1}}}
	if odd(t.z) {
		p.Filters = append(p.Filters, packet.Filter{Text: plain, Opt: 1})
	}
	return p
}

// unwanted: the client wants something no more, or the server answers that.
func (t triple) unwanted() packet.Packet {
	if t.side() == guard.Client {
		return packet.Packet{Kind: api.Unsubscribe, Id: t.id(), Filters: []packet.Filter{{Text: plain}}}
	}
	p := packet.Packet{Kind: api.Unsuback, Id: t.id()}
	if t.version == api.V5 {
		p.Codes = []uint8{0}
	}
	return p
}

// idle: a side is still there, or leaves.
func (t triple) idle(z byte) packet.Packet {
	switch {
	case z >= leaves:
		return packet.Packet{Kind: api.Disconnect}
	case t.side() == guard.Client:
		return packet.Packet{Kind: api.Pingreq}
	}
	return packet.Packet{Kind: api.Pingresp}
}

func (t triple) auth() packet.Packet {
	if t.version != api.V5 {
		return t.idle(0)
	}
	codes := [...]uint8{0, 24, 25}
	return packet.Packet{Kind: api.Auth, Code: codes[t.z%3], Props: []prop.Prop{{Id: 21, A: method}}}
}
