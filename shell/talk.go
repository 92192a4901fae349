package shell

import (
	"strconv"
	"strings"

	"pouch/alias"
	"pouch/audit"
	"pouch/guard"
	"pouch/ids"
	"pouch/packet"
	"pouch/script"
)

// talk is a guard, of which version it is, and what it did.
type talk struct {
	version int
	guard   *guard.Guard
	done    []guard.Action
}

func (t *talk) feed(e script.Event) string {
	acts := t.guard.Feed(e.Side, []byte(e.Bytes))
	t.done = append(t.done, acts...)
	return list(acts, t.action)
}

func (t *talk) phase() string {
	switch t.guard.Phase() {
	case guard.Fresh:
		return "fresh"
	case guard.Connected:
		return "connected"
	case guard.Open:
		return "open"
	}
	return "over"
}

func (t *talk) check() string {
	word, _ := audit.Check(t.version, t.done)
	if word == "" {
		return done
	}
	return word
}

func (t *talk) ids(side int) string {
	return list(t.guard.Ids(side), func(r ids.Row) string {
		return words(strconv.Itoa(int(r.Id)), strconv.Itoa(r.State), strconv.Itoa(r.N))
	})
}

func (t *talk) aliases(side int) string {
	return list(t.guard.Aliases(side), func(r alias.Row) string {
		return words(strconv.Itoa(int(r.Alias)), r.Topic)
	})
}

func (t *talk) action(act guard.Action) string {
	if act.Kind == guard.Close {
		return words("close", sideName(act.Side), strconv.Itoa(int(act.Code)))
	}
	// What goes on is a packet, so there is no error.
	kind, _ := kindOf(t.version, []byte(act.Bytes))
	return words("forward", sideName(act.Side), packet.Name(kind))
}

// list answers what is said of each of some, or that there are none.
func list[T any](l []T, say func(T) string) string {
	if len(l) == 0 {
		return nothing
	}
	said := make([]string, len(l))
	for i, one := range l {
		said[i] = say(one)
	}
	return strings.Join(said, semicolon)
}

func words(l ...string) string {
	return strings.Join(l, blank)
}
