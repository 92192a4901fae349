package decode

import (
	"pouch/api"
	"pouch/packet"
	"pouch/prop"
	"pouch/props"
	"pouch/text"
	"pouch/wire"
)

// mostQoS is the greatest that two bits can tell, whether it may be or not.
const mostQoS = 3

// protocol is the name with which each Connect begins.
const protocol = "MQTT"

// The flags of a Publish.
const (
	publishRetain = 1
	publishQoS    = 2
	publishDup    = 8
)

// The flags of a Connect.
const (
	connectSpare      = 1
	connectClean      = 2
	connectWill       = 4
	connectWillQoS    = 8
	connectWillRetain = 32
	connectPass       = 64
	connectUser       = 128
)

// taker takes a packet's fields, one behind the other. It keeps that something was wrong, so that not each field has to ask.
type taker struct {
	version int
	from    *wire.Reader
	wrong   bool
}

func (t *taker) ok() bool {
	return !t.wrong && t.from.Err() == api.OK
}

// need keeps that something was wrong, if what is to be so isn't.
func (t *taker) need(so bool) {
	t.wrong = t.wrong || !so
}

func (t *taker) text() string {
	s := t.from.Bin()
	t.need(text.Right(s))
	return s
}

// section takes nothing of version 4, which has no properties.
func (t *taker) section() []prop.Prop {
	if t.version == api.V4 {
		return nil
	}
	l, ok := props.Take(t.from)
	t.need(ok)
	return l
}

// fields takes what comes behind the fixed header. Where something is wrong, its answer is of no use.
func (t *taker) fields(h Header) packet.Packet {
	p := packet.Packet{Kind: h.Kind}
	switch h.Kind {
	case api.Connect:
		t.connect(&p)
	case api.Connack:
		t.connack(&p)
	case api.Publish:
		t.publish(&p, h.Flags)
	case api.Puback, api.Pubrec, api.Pubrel, api.Pubcomp:
		p.Id = t.from.Two()
		t.shortCode(&p)
	case api.Subscribe, api.Unsubscribe:
		p.Id = t.from.Two()
		p.Props = t.section()
		p.Filters = t.filters(h.Kind)
	case api.Suback, api.Unsuback:
		p.Id = t.from.Two()
		p.Props = t.section()
		p.Codes = []uint8(t.from.Rest())
	case api.Disconnect, api.Auth:
		t.shortCode(&p)
	}
	return p
}

func (t *taker) connect(p *packet.Packet) {
	t.need(t.from.Bin() == protocol)
	t.need(int(t.from.Byte()) == t.version)
	flags := t.from.Byte()
	t.need(flags&connectSpare == 0)
	p.Clean = flags&connectClean != 0
	p.Keep = t.from.Two()
	p.Props = t.section()
	p.Client = t.text()
	t.will(p, flags)
	p.HasUser = flags&connectUser != 0
	if p.HasUser {
		p.User = t.text()
	}
	p.HasPass = flags&connectPass != 0
	if p.HasPass {
		p.Pass = t.from.Bin()
	}
}

func (t *taker) will(p *packet.Packet, flags uint8) {
	p.HasWill = flags&connectWill != 0
	if !p.HasWill {
		t.need(flags&(mostQoS*connectWillQoS+connectWillRetain) == 0)
		return
	}
	p.WillQoS = flags / connectWillQoS & mostQoS
	p.WillRetain = flags&connectWillRetain != 0
	p.WillProps = t.section()
	p.WillTopic = t.text()
	p.WillLoad = t.from.Bin()
}

func (t *taker) connack(p *packet.Packet) {
	present := t.from.Byte()
	t.need(present <= 1)
	p.Present = present == 1
	p.Code = t.from.Byte()
	p.Props = t.section()
}

func (t *taker) publish(p *packet.Packet, flags uint8) {
	p.Dup = flags&publishDup != 0
	p.QoS = flags / publishQoS & mostQoS
	p.Retain = flags&publishRetain != 0
	p.Topic = t.text()
	if p.QoS != 0 {
		p.Id = t.from.Two()
	}
	p.Props = t.section()
	p.Load = t.from.Rest()
}

// filters asks ahead of each one: behind a section that is none, nothing says that the bytes would ever end.
func (t *taker) filters(kind int) []packet.Filter {
	var l []packet.Filter
	for t.ok() && t.from.Left() > 0 {
		f := packet.Filter{Text: t.text()}
		if kind == api.Subscribe {
			f.Opt = t.from.Byte()
		}
		l = append(l, f)
	}
	return l
}

// shortCode takes a code, and properties, where there are any: what isn't said is 0, or none.
func (t *taker) shortCode(p *packet.Packet) {
	if t.version == api.V4 || t.from.Left() == 0 {
		return
	}
	p.Code = t.from.Byte()
	if t.from.Left() > 0 {
		p.Props = t.section()
	}
}
