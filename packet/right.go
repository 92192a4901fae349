package packet

import (
	"pouch/api"
	"pouch/props"
	"pouch/reason"
	"pouch/text"
	"pouch/topic"
)

// Properties by their ids: how a client proves who it is, and what stands for a topic.
const (
	method = 21
	alias  = 35
)

// mostQoS is the greatest there is.
const mostQoS = 2

// The bits of a Filter's Opt. What is to be done of messages retained is one of three, so both bits of it at once are none.
const (
	optQoS      = 3
	optNotOwn   = 4
	optRetained = 16 + 32
	optSpare    = 64 + 128
)

func exists(version, kind int) bool {
	switch version {
	case api.V4:
		return api.Connect <= kind && kind < api.Auth
	case api.V5:
		return api.Connect <= kind && kind <= api.Auth
	}
	return false
}

// own answers p with just the fields that its kind has.
func own(p Packet) Packet {
	switch p.Kind {
	case api.Connect:
		return ownConnect(p)
	case api.Connack:
		return Packet{Kind: p.Kind, Present: p.Present, Code: p.Code, Props: p.Props}
	case api.Publish:
		return Packet{Kind: p.Kind, Dup: p.Dup, QoS: p.QoS, Retain: p.Retain, Topic: p.Topic, Id: p.Id, Props: p.Props, Load: p.Load}
	case api.Puback, api.Pubrec, api.Pubrel, api.Pubcomp:
		return Packet{Kind: p.Kind, Id: p.Id, Code: p.Code, Props: p.Props}
	case api.Subscribe, api.Unsubscribe:
		return Packet{Kind: p.Kind, Id: p.Id, Props: p.Props, Filters: p.Filters}
	case api.Suback, api.Unsuback:
		return Packet{Kind: p.Kind, Id: p.Id, Props: p.Props, Codes: p.Codes}
	case api.Disconnect, api.Auth:
		return Packet{Kind: p.Kind, Code: p.Code, Props: p.Props}
	}
	return Packet{Kind: p.Kind}
}

func ownConnect(p Packet) Packet {
	q := Packet{Kind: p.Kind, Clean: p.Clean, Keep: p.Keep, Props: p.Props, Client: p.Client, HasWill: p.HasWill, HasUser: p.HasUser, HasPass: p.HasPass}
	if p.HasWill {
		q.WillQoS, q.WillRetain, q.WillProps, q.WillTopic, q.WillLoad = p.WillQoS, p.WillRetain, p.WillProps, p.WillTopic, p.WillLoad
	}
	if p.HasUser {
		q.User = p.User
	}
	if p.HasPass {
		q.Pass = p.Pass
	}
	return q
}

func propsRight(version int, p Packet) bool {
	if version == api.V4 {
		return len(p.Props) == 0 && len(p.WillProps) == 0
	}
	return props.Check(p.Kind, p.Props) && props.Check(api.Will, p.WillProps)
}

// fieldsRight goes by the kind. That a topic or a filter is a Right text is a part of its being one.
func fieldsRight(version int, p Packet) bool {
	switch p.Kind {
	case api.Connect:
		return connectRight(version, p)
	case api.Connack:
		return codeKnown(version, p) && (p.Code == 0 || !p.Present)
	case api.Publish:
		return publishRight(version, p)
	case api.Puback, api.Pubrec, api.Pubrel, api.Pubcomp:
		return p.Id != 0 && codeKnown(version, p)
	case api.Subscribe, api.Unsubscribe:
		return p.Id != 0 && filtersRight(version, p)
	case api.Suback, api.Unsuback:
		return p.Id != 0 && codesRight(version, p)
	case api.Disconnect:
		return codeKnown(version, p)
	case api.Auth:
		_, says := props.Get(p.Props, method)
		return says && codeKnown(version, p)
	}
	return true
}

func connectRight(version int, p Packet) bool {
	if !text.Right(p.Client) || !text.Right(p.User) || len(p.Pass) > api.MaxText {
		return false
	}
	if p.HasWill && !willRight(p) {
		return false
	}
	if version == api.V5 {
		return true
	}
	return (p.HasUser || !p.HasPass) && (p.Clean || p.Client != "")
}

func willRight(p Packet) bool {
	return p.WillQoS <= mostQoS && topic.Name(p.WillTopic) && len(p.WillLoad) <= api.MaxText
}

func publishRight(version int, p Packet) bool {
	if p.QoS > mostQoS || p.Dup && p.QoS == 0 {
		return false
	}
	if (p.Id == 0) != (p.QoS == 0) {
		return false
	}
	if version == api.V5 && p.Topic == "" {
		_, stands := props.Get(p.Props, alias)
		return stands
	}
	return topic.Name(p.Topic)
}

func filtersRight(version int, p Packet) bool {
	if len(p.Filters) == 0 || len(p.Filters) > api.MaxList {
		return false
	}
	for _, f := range p.Filters {
		if !topic.Filter(f.Text) || !optRight(version, p.Kind, f) {
			return false
		}
	}
	return true
}

func optRight(version, kind int, f Filter) bool {
	if kind == api.Unsubscribe {
		return f.Opt == 0
	}
	if f.Opt&optQoS > mostQoS {
		return false
	}
	if version == api.V4 {
		return f.Opt&^optQoS == 0
	}
	if f.Opt&optRetained == optRetained || f.Opt&optSpare != 0 {
		return false
	}
	_, _, shared := topic.Shared(f.Text)
	return !shared || f.Opt&optNotOwn == 0
}

func codesRight(version int, p Packet) bool {
	if version == api.V4 && p.Kind == api.Unsuback {
		return len(p.Codes) == 0
	}
	if len(p.Codes) == 0 || len(p.Codes) > api.MaxList {
		return false
	}
	for _, code := range p.Codes {
		if !reason.Known(version, p.Kind, code) {
			return false
		}
	}
	return true
}

func codeKnown(version int, p Packet) bool {
	return reason.Known(version, p.Kind, p.Code)
}
