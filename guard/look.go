package guard

import (
	"pouch/api"
	"pouch/framer"
	"pouch/ids"
	"pouch/limits"
	"pouch/packet"
	"pouch/props"
	"pouch/reason"
)

// The codes by which Auths tell how far they are.
const (
	done  = 0
	goOn  = 24
	again = 25
)

// look answers why a packet may not go on. If it may, what it brings about is so.
func (g *Guard) look(side int, item framer.Item) uint8 {
	p := item.Packet
	switch {
	case !sends(g.version, side, p.Kind) || !g.timely(side, p.Kind):
		return protocol
	case len(item.Bytes) > g.taken(side).Size:
		return tooLarge
	}
	switch p.Kind {
	case api.Connect:
		g.connect(p)
	case api.Connack:
		return g.connack(p)
	case api.Publish:
		return g.publish(side, p)
	case api.Pubrel:
		return g.answer(side, p)
	case api.Puback, api.Pubrec, api.Pubcomp, api.Suback, api.Unsuback:
		return g.answer(other(side), p)
	case api.Subscribe:
		return g.subscribe(p)
	case api.Unsubscribe:
		return g.unsubscribe(p)
	case api.Disconnect:
		return g.disconnect(side, p)
	case api.Auth:
		return g.auth(side, p)
	}
	return fine
}

// taken answers what may be sent by a side: what the other one takes.
func (g *Guard) taken(side int) limits.Limits {
	return g.sides[other(side)].limits
}

// sends says whether a side may send a kind at all.
func sends(version, side, kind int) bool {
	switch kind {
	case api.Connect, api.Subscribe, api.Unsubscribe, api.Pingreq:
		return side == Client
	case api.Connack, api.Suback, api.Unsuback, api.Pingresp:
		return side == Server
	case api.Disconnect:
		return side == Client || version == api.V5
	}
	return true
}

// timely says whether a side may send a kind by now.
func (g *Guard) timely(side, kind int) bool {
	switch {
	case g.phase == Fresh || kind == api.Connect:
		return g.phase == Fresh && kind == api.Connect
	case g.phase == Open:
		return kind != api.Connack
	case side == Server:
		return kind == api.Connack || kind == api.Auth
	case g.greeted.proves:
		return kind == api.Auth || kind == api.Disconnect
	}
	return true
}

func (g *Guard) connect(p packet.Packet) {
	g.phase = Connected
	g.greeted = greets(p)
	g.sides[Client].limits = limits.Of(g.version, p)
	if g.greeted.proves {
		g.turn = Server
	}
}

func (g *Guard) connack(p packet.Packet) uint8 {
	_, names := props.Get(p.Props, given)
	_, proves := props.Get(p.Props, method)
	failed := reason.Failed(g.version, p.Kind, p.Code)
	switch {
	case p.Present && g.greeted.clean:
		return protocol
	case names && g.greeted.named:
		return protocol
	case proves && !g.greeted.by(p):
		return protocol
	case !failed && g.greeted.proves && g.turn != Server:
		return protocol
	}
	if failed {
		g.end()
		return fine
	}
	g.phase = Open
	g.sides[Server].limits = limits.Of(g.version, p)
	g.turn = nobody
	return fine
}

// answer: a number of a side's is answered, or released by itself.
func (g *Guard) answer(side int, p packet.Packet) uint8 {
	failed := reason.Failed(g.version, p.Kind, p.Code)
	t, err := ids.Turn(g.sides[side].ids, p.Kind, p.Id, failed, len(p.Codes))
	if err != api.OK {
		return protocol
	}
	g.sides[side].ids = t
	return fine
}

// use: a number of a side's comes into use.
func (g *Guard) use(side int, id uint16, state, n int) uint8 {
	t, err := ids.Open(g.sides[side].ids, id, state, n)
	if err != api.OK {
		return protocol
	}
	g.sides[side].ids = t
	return fine
}

func (g *Guard) disconnect(side int, p packet.Packet) uint8 {
	l, says := props.Get(p.Props, lasts)
	if says && (side == Server || l.N != 0 && !g.greeted.lasts) {
		return protocol
	}
	g.end()
	return fine
}

func (g *Guard) auth(side int, p packet.Packet) uint8 {
	if !g.greeted.by(p) || !g.awaits(side, p.Code) {
		return protocol
	}
	switch p.Code {
	case goOn:
		g.turn = other(side)
	case again:
		g.turn = Server
	case done:
		g.turn = nobody
	}
	return fine
}

// awaits says whether a side may send an Auth of a code by now.
func (g *Guard) awaits(side int, code uint8) bool {
	switch code {
	case goOn:
		return g.turn == side
	case again:
		return side == Client && g.phase == Open && g.turn == nobody
	case done:
		return side == Server && g.phase == Open && g.turn == Server
	}
	return false
}
