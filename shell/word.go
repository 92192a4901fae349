package shell

import (
	"strconv"

	"pouch/api"
	"pouch/decode"
	"pouch/guard"
	"pouch/script"
)

// What stands between words, and between what is said of one and of the next.
const (
	blank     = " "
	semicolon = ";"
)

// How lines name the sides.
const (
	clientName = "c"
	serverName = "s"
)

// mostNumber is the greatest number that a line tells.
const mostNumber = 1000000

// numberOf answers the number that a word tells.
func numberOf(word string) (int, bool) {
	n, err := strconv.Atoi(word)
	// It is written back, because Atoi takes a sign and noughts ahead, too.
	if err != nil || n < 0 || n > mostNumber || strconv.Itoa(n) != word {
		return 0, false
	}
	return n, true
}

// sideOf answers the side that a word names.
func sideOf(word string) (int, bool) {
	switch word {
	case clientName:
		return guard.Client, true
	case serverName:
		return guard.Server, true
	}
	return 0, false
}

func sideName(side int) string {
	if side == guard.Client {
		return clientName
	}
	return serverName
}

// bytesOf answers the bytes that a word tells, as in a Line behind its side: whichever that is.
func bytesOf(word string) ([]byte, bool) {
	e, err := script.Parse(clientName + blank + word)
	if err != api.OK {
		return nil, false
	}
	return []byte(e.Bytes), true
}

// kindOf answers the kind of the packet that bytes are.
func kindOf(version int, b []byte) (int, api.Errno) {
	p, err := decode.Decode(version, b)
	return p.Kind, err
}
