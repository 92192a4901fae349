package topic_test

import (
	"strings"
	"testing"

	"pouch/api"
	"pouch/topic"
)

// Texts that aren't Right, whatever they are meant as.
var wrong = []string{
	"\x00", "a\x00", "a/\x00/b", "\xFF", "a/\xC0\x80", "\xED\xA0\x80", "a\xC3", "\xF4\x90\x80\x80",
	strings.Repeat("a", api.MaxText+1),
	strings.Repeat("a/", api.MaxText/2) + "aa",
}

// P4.1, P1: names are Right, not empty, and have no wildcard.
func TestP4_1Name(t *testing.T) {
	for _, s := range []string{
		"a", "/", "//", "a/b", "/a", "a/", " ", "$", "$x", "$x/y", "$share", "$share/", "$share/g", "$share/g/a",
		"é/€/😀", "\x01", "\x7f", "!\"%&*,-.", "\uFEFF", "\uFFFF", strings.Repeat("a", api.MaxText), strings.Repeat("/", api.MaxText),
	} {
		if !topic.Name(s) {
			t.Errorf("Name(%.40q): false", s)
		}
	}
	for _, s := range append([]string{"", "+", "#", "a+", "+a", "a#", "a/+", "a/#", "a/+/b", "a/b#c", "$x/#"}, wrong...) {
		if topic.Name(s) {
			t.Errorf("Name(%.40q): true", s)
		}
	}
}

// P4.1, P1: what filters may be, with wildcards alone in a level, within one, at the end and before it.
func TestP4_1Filter(t *testing.T) {
	for _, s := range []string{
		"a", "/", "//", "a/b", "a/", "/a", "+", "#", "+/+", "+/#", "/+", "+/", "/#", "a/+", "a/+/b", "a/#", "a//#", "+//+", "/+/",
		"$", "$x", "$x/+", "$x/#", "$", "$share", "$shar/g", "$sharee/+", "$Share//a", "a/$share//b", "/$share//",
		"$share/g/a", "$share/g/+", "$share/g/#", "$share/g//", "$share/g//a", "$share/g/$x", "$share/g/$x/#", "$share/g/a/+/#",
		"$share/$/a", "$share/ /a", "$share/é/😀", "$share/g/$share/h/a", "$share/g/$share//a", "$share/g/$share",
		"é/€/+", strings.Repeat("a", api.MaxText), strings.Repeat("/", api.MaxText), strings.Repeat("+/", api.MaxText/2) + "#",
		"$share/g/" + strings.Repeat("a", api.MaxText-9),
	} {
		if !topic.Filter(s) {
			t.Errorf("Filter(%.40q): false", s)
		}
	}
	for _, s := range append([]string{
		"", "a+", "+a", "++", "a+b", "#a", "a#", "##", "+#", "#+", "#/", "#/a", "#/+", "#/#", "a/#/", "a/#/b", "a/+b/c", "a/b+/c", "+/a#", "a/#b", "a/+#", "/#/", "/##",
		"$share/", "$share/g", "$share//", "$share//a", "$share///", "$share/g/", "$share/+/a", "$share/#/a", "$share/g+/a", "$share/#g/a", "$share/+", "$share/#",
		"$share/g/a+", "$share/g/#/a", "$share/g/+a", "$share/g/##", "$share/\xFF/a", "$share/g/\xFF", "$share/\x00/a", "$share/g/\x00",
		"$share/g/" + strings.Repeat("a", api.MaxText-8), "$share/" + strings.Repeat("g", 20),
	}, wrong...) {
		if topic.Filter(s) {
			t.Errorf("Filter(%.40q): true", s)
		}
	}
}

// P4.1: a text that isn't one any more has a wildcard still.
func TestP4_1Wild(t *testing.T) {
	for _, s := range []string{"+", "#", "a+", "#a", "a/b/+", "a/#/b", "\xFF+", "\x00#", strings.Repeat("a", api.MaxText) + "+", "$share/+/a"} {
		if !topic.Wild(s) {
			t.Errorf("Wild(%.40q): false", s)
		}
	}
	for _, s := range []string{"", "a", "/", "$x", "\xFF", "\x00", "*", "$share/g/a", "\u012B\u0123", strings.Repeat("a", api.MaxText+1)} {
		if topic.Wild(s) {
			t.Errorf("Wild(%.40q): true", s)
		}
	}
}

// P4.1: a share's two halves, and nothing of what is no filter, or nobody's share.
func TestP4_1Shared(t *testing.T) {
	for _, c := range []struct{ s, whose, what string }{
		{"$share/g/a", "g", "a"}, {"$share/g/a/#", "g", "a/#"}, {"$share/g//", "g", "/"}, {"$share/g//a", "g", "/a"},
		{"$share/g/$x", "g", "$x"}, {"$share/g/+", "g", "+"}, {"$share/$share/$share/a/b", "$share", "$share/a/b"}, {"$share/é/€/+", "é", "€/+"},
	} {
		if whose, what, ok := topic.Shared(c.s); whose != c.whose || what != c.what || !ok {
			t.Errorf("Shared(%q): %q, %q, %t", c.s, whose, what, ok)
		}
	}
	for _, s := range append([]string{
		"", "a", "+", "a/b/c", "$share", "$shar/g/a", "$Share/g/a", "/$share/g/a", "$share/", "$share/g", "$share//", "$share//a", "$share/g/",
		"$share/+/a", "$share/#/a", "$share/g+/a", "$share/g/a+", "$share/g/#/a", "$share/g/\xFF", "$share/\x00/a",
	}, wrong...) {
		if whose, what, ok := topic.Shared(s); whose != "" || what != "" || ok {
			t.Errorf("Shared(%.40q): %q, %q, %t", s, whose, what, ok)
		}
	}
}

// P4.1, P1: by the levels.
func TestP4_1Match(t *testing.T) {
	long := strings.Repeat("/", api.MaxText)
	for _, c := range []struct {
		filter, name string
		want         bool
	}{
		{"a", "a", true}, {"a", "A", false}, {"a", "ab", false}, {"ab", "a", false}, {"a", "a/", false}, {"a/", "a", false}, {"a/", "a/", true}, {"a", "/a", false},
		{"a/b", "a/b", true}, {"a/b", "a/c", false}, {"a/b", "c/b", false}, {"a/b", "a/b/c", false}, {"a/b/c", "a/b", false}, {"a//b", "a/b", false},
		{"+", "a", true}, {"+", "/", false}, {"+", "a/b", false}, {"+/+", "/", true}, {"+/+", "a/b", true}, {"+/+", "a", false}, {"/+", "/a", true}, {"/+", "/", true}, {"/+", "a", false}, {"+/", "a/", true}, {"+/", "a", false},
		{"a/+/c", "a/b/c", true}, {"a/+/c", "a//c", true}, {"a/+/c", "a/b", false}, {"a/+/c", "a/b/d", false}, {"a/+/c", "a/b/b/c", false}, {"a/+", "a", false}, {"a/+", "a/", true}, {"a/+", "a/b/c", false}, {"+/b", "a/b", true}, {"+/b", "b", false},
		{"#", "a", true}, {"#", "/", true}, {"#", "a/b/c", true}, {"a/#", "a", true}, {"a/#", "a/", true}, {"a/#", "a/b", true}, {"a/#", "a/b/c", true}, {"a/#", "ab", false}, {"a/#", "b/a", false}, {"a/#", "/a", false}, {"/#", "/", true}, {"/#", "/a", true}, {"/#", "a", false}, {"a/b/#", "a", false}, {"a//#", "a/", true}, {"a//#", "a", false}, {"+/#", "a", true}, {"+/#", "a/b", true}, {"+/+/#", "a", false}, {"+/b/#", "a/b", true},
		{"#", "$x", false}, {"#", "$", false}, {"+", "$x", false}, {"+/x", "$y/x", false}, {"+/#", "$x", false}, {"+/#", "$x/y", false}, {"$x", "$x", true}, {"$y/+", "$y/x", true}, {"$x/#", "$x", true}, {"$x/#", "$x/y/z", true}, {"$x/#", "$y", false}, {"/#", "/$x", true}, {"/+", "/$x", true}, {"a/+", "a/$x", true}, {"+/$x", "a/$x", true}, {"#", "a/$x", true},
		{"$share/g/a", "a", true}, {"$share/g/a", "g/a", false}, {"$share/g/a", "$share/g/a", false}, {"$share/g/#", "a/b", true}, {"$share/g/#", "$x", false}, {"$share/g/+", "$x", false}, {"$share/g/+/a", "$x/a", false}, {"$share/g/$x/#", "$x/a", true}, {"$share/g/$x", "$x", true}, {"$share/g//a", "/a", true}, {"$share/g//a", "a", false}, {"$share/g/a/#", "a", true}, {"$share/g/#", "$share/g/a", false},
		{"$share/g/$share/h/a", "$share/h/a", true}, {"$share/g/$share/h/a", "a", false}, {"$share/g/$share/+/+", "$share/h/a", true},
		{"$share", "$share", true}, {"$share", "$share/", false}, {"$share/g", "$share/g", false}, {"$share/#", "$share", false}, {"$share//a", "a", false}, {"$share/+/a", "a", false},
		{"a/b+", "a/b+", false}, {"a/+", "a/+", false}, {"+", "+", false}, {"#", "#", false}, {"a#", "a#", false}, {"a/#/b", "a/x/b", false}, {"a+", "ab", false},
		{"", "", false}, {"", "a", false}, {"a", "", false}, {"+", "", false}, {"#", "", false}, {"$share/g/#", "", false}, {"$share/g/", "", false},
		{"é/+", "é/€", true}, {"\xFF", "\xFF", false}, {"a/\x00", "a/\x00", false}, {"#", "\x00", false}, {"#", "\xFF", false}, {"+", "a\x00", false}, {"a\x00/+", "a\x00/b", false},
		{long, long, true}, {long, long[1:], false}, {"/#", long, true}, {"#", long, true}, {"#", long + "/", false}, {strings.Repeat("+/", api.MaxText/2) + "+", long[:api.MaxText/2], true}, {strings.Repeat("+/", api.MaxText/2) + "#", long[:api.MaxText/2-1], true}, {strings.Repeat("+/", api.MaxText/2) + "#", long[:api.MaxText/2-2], false},
	} {
		if got := topic.Match(c.filter, c.name); got != c.want {
			t.Errorf("Match(%.40q, %.40q): %t", c.filter, c.name, got)
		}
	}
}

// texts calls do with all texts of some signs, up to so many.
func texts(signs string, most int, do func(string)) {
	all := []string{""}
	for len(all[0]) <= most {
		var next []string
		for _, s := range all {
			do(s)
			for _, sign := range signs {
				next = append(next, s+string(sign))
			}
		}
		all = next
	}
}

// wanted is the document's text, by recursion, for filters and names whatever they are.
func wanted(filter, name []string) bool {
	if len(filter) == 0 {
		return len(name) == 0
	}
	if filter[0] == "#" {
		return true
	}
	return len(name) > 0 && (filter[0] == "+" || filter[0] == name[0]) && wanted(filter[1:], name[1:])
}

// P4.1: of all short texts, against the document's words.
func TestP4_1AllShort(t *testing.T) {
	var names, filters []string
	texts("a$/+#", 5, func(s string) {
		if name := s != "" && !strings.ContainsAny(s, "+#"); topic.Name(s) != name {
			t.Errorf("Name(%q): %t", s, !name)
		} else if name && len(s) <= 4 {
			names = append(names, s)
		}
		levels := strings.Split(s, "/")
		may := s != ""
		for i, level := range levels {
			may = may && (level == "+" || !strings.Contains(level, "+")) && (level == "#" && i == len(levels)-1 || !strings.Contains(level, "#"))
		}
		if topic.Filter(s) != may {
			t.Errorf("Filter(%q): %t", s, !may)
		}
		if may != topic.Filter("$share/g/"+s) {
			t.Errorf("Filter of %q's share: %t", s, !may)
		}
		if may {
			filters = append(filters, s)
		}
	})
	for _, filter := range filters {
		for _, name := range names {
			hidden := name[0] == '$' && (filter[0] == '+' || filter[0] == '#')
			want := !hidden && wanted(strings.Split(filter, "/"), strings.Split(name, "/"))
			if topic.Match(filter, name) != want || topic.Match("$share/g/"+filter, name) != want {
				t.Errorf("Match(%q, %q), or its share: not %t", filter, name, want)
			}
		}
	}
}

// P4.2: a name matches itself, and by # behind any number of its levels.
func TestP4_2NamesMatchThemselves(t *testing.T) {
	texts("ab$/", 6, func(name string) {
		if name == "" {
			return
		}
		if !topic.Match(name, name) {
			t.Errorf("%q doesn't match itself", name)
		}
		levels := strings.Split(name, "/")
		for n := range levels {
			filter := strings.Join(levels[:n+1], "/") + "/#"
			if !topic.Match(filter, name) {
				t.Errorf("%q doesn't match %q", name, filter)
			}
		}
		if topic.Match("#", name) != (name[0] != '$') {
			t.Errorf("%q and # alone", name)
		}
	})
}
