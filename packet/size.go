package packet

import (
	"pouch/api"
	"pouch/prop"
	"pouch/props"
)

// connectStart is what each Connect begins with: the Bin MQTT, the version, the flags, Keep.
const connectStart = 6 + 1 + 1 + 2

func connectSize(version int, p Packet) int {
	n := connectStart + section(version, p.Props) + bin(p.Client)
	if p.HasWill {
		n += section(version, p.WillProps) + bin(p.WillTopic) + bin(p.WillLoad)
	}
	if p.HasUser {
		n += bin(p.User)
	}
	if p.HasPass {
		n += bin(p.Pass)
	}
	return n
}

// numberSize is that of a Publish's Id: what isn't to be answered has none.
func numberSize(p Packet) int {
	if p.QoS == 0 {
		return 0
	}
	return 2
}

func filtersSize(p Packet) int {
	n := 0
	for _, f := range p.Filters {
		n += bin(f.Text)
		if p.Kind == api.Subscribe {
			n++
		}
	}
	return n
}

// shortCode is the size of a Code and Props: what needn't be said isn't laid.
func shortCode(version int, p Packet) int {
	switch {
	case version == api.V4, p.Code == 0 && len(p.Props) == 0:
		return 0
	case len(p.Props) == 0:
		return 1
	}
	return 1 + section(version, p.Props)
}

func section(version int, l []prop.Prop) int {
	if version == api.V4 {
		return 0
	}
	return props.Size(l)
}

func bin(s string) int {
	return 2 + len(s)
}
