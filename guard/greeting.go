package guard

import (
	"strings"

	"pouch/packet"
	"pouch/props"
)

// The properties that are looked at.
const (
	number = 11 // of filters
	lasts  = 17 // how long what is known is kept
	given  = 18 // a client's name, by the server
	method = 21 // by which a side proves who it is
	short  = 35 // for a topic
)

// greeting is what a Connect said, as far as it counts later on.
type greeting struct {
	clean, named, lasts, proves bool
	method                      string
}

// greets answers what a Connect says. The method is a copy, because it may be a piece of a long text, which shall not stay in memory by it.
func greets(p packet.Packet) greeting {
	l, _ := props.Get(p.Props, lasts)
	m, proves := props.Get(p.Props, method)
	return greeting{clean: p.Clean, named: p.Client != "", lasts: l.N != 0, proves: proves, method: strings.Clone(m.A)}
}

// by says whether a packet has the Connect's method.
func (g greeting) by(p packet.Packet) bool {
	m, ok := props.Get(p.Props, method)
	return ok && g.proves && m.A == g.method
}
