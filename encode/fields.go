package encode

import (
	"pouch/api"
	"pouch/packet"
	"pouch/prop"
	"pouch/props"
	"pouch/wire"
)

// protocol is the name with which each Connect begins.
const protocol = "MQTT"

// The flags of a Connect.
const (
	connectClean      = 2
	connectWill       = 4
	connectWillQoS    = 8
	connectWillRetain = 32
	connectPass       = 64
	connectUser       = 128
)

// form is a packet's bytes, as far as they are laid.
type form struct {
	version int
	bytes   []byte
}

// lay takes parts that were laid by themselves, because wire copies all that it lays behind.
func (f *form) lay(part []byte) {
	f.bytes = append(f.bytes, part...)
}

func (f *form) one(n uint8) {
	f.lay(wire.Byte(nil, n))
}

func (f *form) two(n uint16) {
	f.lay(wire.Two(nil, n))
}

func (f *form) number(n int) {
	f.lay(wire.Var(nil, uint32(n)))
}

func (f *form) bin(s string) {
	f.lay(wire.Bin(nil, s))
}

// section lays nothing of version 4, which has no properties.
func (f *form) section(l []prop.Prop) {
	if f.version == api.V5 {
		f.lay(props.Put(nil, l))
	}
}

// fields lays what comes behind the fixed header.
func (f *form) fields(p packet.Packet) {
	switch p.Kind {
	case api.Connect:
		f.connect(p)
	case api.Connack:
		f.one(when(p.Present, 1))
		f.one(p.Code)
		f.section(p.Props)
	case api.Publish:
		f.publish(p)
	case api.Puback, api.Pubrec, api.Pubrel, api.Pubcomp:
		f.two(p.Id)
		f.shortCode(p)
	case api.Subscribe, api.Unsubscribe:
		f.two(p.Id)
		f.section(p.Props)
		f.filters(p)
	case api.Suback, api.Unsuback:
		f.two(p.Id)
		f.section(p.Props)
		f.lay(p.Codes)
	case api.Disconnect, api.Auth:
		f.shortCode(p)
	}
}

func (f *form) connect(p packet.Packet) {
	f.bin(protocol)
	f.one(uint8(f.version))
	f.one(connectFlags(p))
	f.two(p.Keep)
	f.section(p.Props)
	f.bin(p.Client)
	if p.HasWill {
		f.section(p.WillProps)
		f.bin(p.WillTopic)
		f.bin(p.WillLoad)
	}
	if p.HasUser {
		f.bin(p.User)
	}
	if p.HasPass {
		f.bin(p.Pass)
	}
}

func connectFlags(p packet.Packet) uint8 {
	return when(p.Clean, connectClean) + when(p.HasWill, connectWill) +
		connectWillQoS*p.WillQoS + when(p.WillRetain, connectWillRetain) +
		when(p.HasPass, connectPass) + when(p.HasUser, connectUser)
}

func (f *form) publish(p packet.Packet) {
	f.bin(p.Topic)
	if p.QoS != 0 {
		f.two(p.Id)
	}
	f.section(p.Props)
	f.bytes = append(f.bytes, p.Load...)
}

func (f *form) filters(p packet.Packet) {
	for _, want := range p.Filters {
		f.bin(want.Text)
		if p.Kind == api.Subscribe {
			f.one(want.Opt)
		}
	}
}

// shortCode leaves out what needn't be said.
func (f *form) shortCode(p packet.Packet) {
	if f.version == api.V4 || p.Code == 0 && len(p.Props) == 0 {
		return
	}
	f.one(p.Code)
	if len(p.Props) != 0 {
		f.section(p.Props)
	}
}
