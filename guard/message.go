package guard

import (
	"pouch/alias"
	"pouch/api"
	"pouch/ids"
	"pouch/limits"
	"pouch/packet"
	"pouch/props"
	"pouch/topic"
)

// publish: its alias is given just if nothing else refuses it.
func (g *Guard) publish(side int, p packet.Packet) uint8 {
	if code := g.message(side, p); code != fine {
		return code
	}
	aliases, code := g.shortened(side, p)
	if code != fine {
		return code
	}
	if code := g.fly(side, p); code != fine {
		return code
	}
	g.sides[side].aliases = aliases
	return fine
}

// message answers why a message isn't taken, by itself.
func (g *Guard) message(side int, p packet.Packet) uint8 {
	l := g.taken(side)
	_, numbered := props.Get(p.Props, number)
	switch {
	case p.QoS > l.QoS:
		return noSuchQoS
	case p.Retain && !l.Retain:
		return noRetain
	case numbered && side == Client:
		return protocol
	}
	return fine
}

// shortened answers a side's aliases as they are with that of a message.
func (g *Guard) shortened(side int, p packet.Packet) (alias.Table, uint8) {
	t, most := g.sides[side].aliases, g.taken(side).Alias
	q, ok := props.Get(p.Props, short)
	switch {
	case !ok:
		return t, fine
	case q.N > uint32(most):
		return nil, aliasTooHigh
	}
	t, _, err := alias.Use(t, most, uint16(q.N), p.Topic)
	if err != api.OK {
		return nil, protocol
	}
	return t, fine
}

// fly: a message that is to be answered is on its way.
func (g *Guard) fly(side int, p packet.Packet) uint8 {
	state := ids.Acked
	switch p.QoS {
	case 0:
		return fine
	case 2:
		state = ids.Received
	}
	if ids.Flying(g.sides[side].ids) >= int(g.taken(side).Receive) {
		return tooMany
	}
	return g.use(side, p.Id, state, 0)
}

func (g *Guard) subscribe(p packet.Packet) uint8 {
	l := g.taken(Client)
	if _, numbered := props.Get(p.Props, number); numbered && !l.Number {
		return noNumber
	}
	for _, f := range p.Filters {
		if code := unwanted(l, f.Text); code != fine {
			return code
		}
	}
	return g.use(Client, p.Id, ids.Wanted, len(p.Filters))
}

// unwanted answers why a filter isn't taken.
func unwanted(l limits.Limits, filter string) uint8 {
	_, _, shared := topic.Shared(filter)
	switch {
	case topic.Wild(filter) && !l.Wild:
		return noWild
	case shared && !l.Shared:
		return noShared
	}
	return fine
}

// unsubscribe: its answer has codes in version 5 alone.
func (g *Guard) unsubscribe(p packet.Packet) uint8 {
	n := len(p.Filters)
	if g.version == api.V4 {
		n = 0
	}
	return g.use(Client, p.Id, ids.Unwanted, n)
}
