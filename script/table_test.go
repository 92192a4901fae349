package script_test

import "strings"

// on answers what there is if so.
func on(so bool, s string) string {
	if so {
		return s
	}
	return ""
}

// whole lays a packet of a first byte, and what is behind.
func whole(head byte, behind ...string) string {
	s := strings.Join(behind, "")
	return string([]byte{head, byte(len(s))}) + s
}

// section lays properties, in version 5.
func section(version int, l ...string) string {
	s := strings.Join(l, "")
	return on(version == 5, string([]byte{byte(len(s))})+s)
}

// table is the document's table, as bytes: what three bytes say.
func table(version, x, y, z int) []event {
	side, b := packet(version, x, y, z)
	if y%7 == 0 {
		return []event{{side, b[:len(b)/2]}, {side, b[len(b)/2:]}}
	}
	return []event{{side, b}}
}

func packet(version, x, y, z int) (int, string) {
	side := x / 128
	id := string([]byte{0, byte(y%3 + 1)})
	five := version == 5
	receive := "\x21\x00" + string([]byte{byte(z/2%3 + 1)})
	switch x % 16 {
	case 0:
		flags := on(y%2 == 1 || !five && y < 128, "\x02") + on(y%2 == 0 && (five || y >= 128), "\x00")
		l := section(version, on(z/64%2 == 1, "\x11\x00\x00\x00\x05"), on(z/32%2 == 1, "\x15\x00\x01m"), on(z%2 == 1, receive), on(z/16%2 == 1, "\x22\x00\x02"))
		return 0, whole(0x10, "\x00\x04MQTT", string([]byte{byte(version)}), flags, "\x00\x00", l, on(y < 128, "\x00\x00"), on(y >= 128, "\x00\x01a"))
	case 1:
		code := on(y < 240, "\x00") + on(y >= 240 && five, "\x80") + on(y >= 240 && !five, "\x05")
		l := section(version, on(z/32%2 == 1, "\x15\x00\x01m"), on(z%2 == 1, receive), on(z/16%2 == 1, "\x22\x00\x02"), on(z/64%2 == 1, "\x24\x01"), on(z/128 == 1, "\x28\x00"))
		return 1, whole(0x20, "\x00", code, l)
	case 7:
		return side, whole(0x40, id)
	case 8:
		return side, whole(0x50, id, on(five && z >= 200, "\x80"))
	case 9:
		return side, whole(0x62, id)
	case 10:
		return side, whole(0x70, id)
	case 11:
		return 0, whole(0x82, id, section(version), "\x00\x03a/+\x01", on(z%2 == 1, "\x00\x01b\x01"))
	case 12:
		return 1, whole(0x90, id, section(version), "\x00", on(z%2 == 1, "\x00"))
	case 13:
		if side == 0 {
			return 0, whole(0xA2, id, section(version), "\x00\x01b")
		}
		return 1, whole(0xB0, id, section(version), on(five, "\x00"))
	case 14:
		return side, idle(side, z)
	case 15:
		if z == 255 {
			return side, string([]byte{byte(y)})
		}
		if five {
			return side, whole(0xF0, []string{"\x00", "\x18", "\x19"}[z%3], section(version, "\x15\x00\x01m"))
		}
		return side, idle(side, 0)
	}
	return side, message(version, id, y, z)
}

func idle(side, z int) string {
	if z >= 250 {
		return "\xE0\x00"
	}
	return []string{"\xC0\x00", "\xD0\x00"}[side]
}

func message(version int, id string, y, z int) string {
	short := version == 5 && y/16%2 == 1
	topic := "\x00\x01t"
	if short && y >= 128 {
		topic = "\x00\x00"
	}
	alias := "\x23\x00" + string([]byte{byte(y/32%2 + 1)})
	return whole([]byte{0x30, 0x32, 0x34}[z%3], topic, on(z%3 != 0, id), section(version, on(short, alias)), strings.Repeat("x", z/3%4))
}
