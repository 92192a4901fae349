package shell_test

import (
	"slices"
	"strconv"
	"strings"
	"testing"

	"pouch/shell"
)

// How both sides greet, in both versions.
const (
	connect4 = "c 100c00044d515454040200000000"
	connack4 = "s 20020000"
	connect5 = "c 100d00044d51545405020000000000"
	connack5 = "s 2003000000"
)

// says holds the replies of a Shell: a line, and its reply, and so on.
func says(t *testing.T, s *shell.Shell, l ...string) {
	t.Helper()
	for i := 0; i+1 < len(l); i += 2 {
		if got := s.Do(l[i]); got != l[i+1] {
			t.Errorf("line %d, %.200q: %.200q, want %.200q", i/2, l[i], got, l[i+1])
		}
	}
}

// begun answers a Shell with a guard between two sides that have greeted.
func begun(t *testing.T, version int) *shell.Shell {
	t.Helper()
	s := shell.New()
	if version == 4 {
		says(t, s, "version 4", "ok", "begin", "ok", connect4, "forward c connect", connack4, "forward s connack")
	} else {
		says(t, s, "begin", "ok", connect5, "forward c connect", connack5, "forward s connack")
	}
	return s
}

// join answers a line without the blanks behind its side, which are for the eye alone.
func join(line string) string {
	return line[:2] + strings.ReplaceAll(line[2:], " ", "")
}

// P17.1: the chapter's examples.
func TestP17_1Examples(t *testing.T) {
	if got := shell.Lines([]string{"begin", "s 20020000"}); !slices.Equal(got, []string{"ok", "close s 129"}) {
		t.Error(got)
	}
	if got := shell.Lines([]string{"version 4", "begin", "s 20020000"}); !slices.Equal(got, []string{"ok", "ok", "close s 130"}) {
		t.Error(got)
	}
}

// P17.1: a new one has version 5, most 1024, and no guard.
func TestP17_1New(t *testing.T) {
	says(t, shell.New(), "phase", "no guard", "check", "no guard", "ids c", "no guard", "ids s", "no guard", "aliases c", "no guard", "aliases s", "no guard",
		connect5, "no guard", "s -", "no guard", "c ff", "no guard")
	says(t, shell.New(), "decode 4003000700", "puback", "begin", "ok", connect5, "forward c connect")
	packet := "10 ff 07" + strings.Repeat("00", 1023)
	says(t, shell.New(), "begin", "ok", join("c 10 fd 07"), "none", "check", "ok")
	says(t, shell.New(), "begin", "ok", join("c 10 fe 07"), "close c 149", "check", "ok")
	says(t, shell.New(), "begin", "ok", join("s "+packet), "close s 149")
}

// P17.1: what is none of the lines, whether there is a guard or not.
func TestP17_1What(t *testing.T) {
	lines := []string{"", " ", "  ", "what", "ok", "Begin", "BEGIN", "begin ", " begin", "begin  ", "begin 5", "begin begin", "beginn", "begi", "begin\n", "begin\x00", "\tbegin", "begin\t",
		"phase ", " phase", "phase c", "phases", "check ", " check", "check check", "Check", "check\r\n", "phase;check", "phase\ncheck",
		"ids", "ids ", "ids  c", "ids c ", " ids c", "ids C", "ids cs", "ids 0", "ids 1", "ids c s", "ids -", "ids\tc", "idsc", "ids x", "id c", "ids c\n",
		"aliases", "aliases ", "aliases  s", "aliases s ", "aliases S", "aliases sc", "aliases 1", "aliases c c", "alias c", "aliases-c",
		"version", "version ", "version  4", "version 4 ", " version 4", "version 4 4", "Version 4", "version four", "version c", "version -",
		"most", "most ", "most  100", "most 100 ", " most 100", "most 100 100", "most c", "most -",
		"decode", "decode ", "decode  c000", "decode c000 ", " decode c000", "decode c0 00", "decode C000", "decode 4", "decode c00", "decode g0", "decode --", "decode -00", "decode c000-", "decode c c000", "Decode c000", "decode 0xc0", "decode c000\n",
		"c", "s", "c ", "s ", "c  00", "c 00 ", " c 00", "c 0", "c 000", "c 0G", "c AB", "c --", "c 00 00", "C 00", "S 00", "cs 00", "d 00", "0 00", "1 00", "c\t00", "-", "00", "c000", "c 00\n", "s 20020000;", "\xff", "é", "c é0"}
	for _, version := range []string{"4", "5"} {
		s := shell.New()
		says(t, s, "version "+version, "ok")
		for range 2 {
			for _, line := range lines {
				says(t, s, line, "what")
			}
			says(t, s, "begin", "ok", "phase", "fresh", "check", "ok")
		}
	}
}

// P17.1: a nil Shell answers what, to whatever line.
func TestP17_1Nil(t *testing.T) {
	var s *shell.Shell
	for _, line := range []string{"", "begin", "phase", "check", "ids c", "aliases s", "version 4", "most 5", "decode c000", connect4, "s -", "what", "x"} {
		says(t, s, line, "what", "phase", "what")
	}
}

// P17.1: N, in its digits.
func TestP17_1Numbers(t *testing.T) {
	s := shell.New()
	says(t, s, "begin", "ok")
	for _, n := range []string{"0", "1", "2", "4", "5", "6", "9", "10", "99", "100", "1024", "65536", "99999", "100000", "999999", "1000000"} {
		says(t, s, "version "+n, "ok", "most "+n, "ok")
	}
	for _, n := range []string{"00", "01", "04", "05", "0100", "0000000", "0000004", "000", "1000001", "1000002", "1000010", "1000100", "1010000", "1100000", "2000000", "9999999", "10000000", "00000001", "4294967300", "4294967296", "18446744073709551620", "18446744073709551616", "9223372036854775808", strings.Repeat("1", 100), strings.Repeat("0", 100),
		"-1", "-0", "+4", "+0", "4.", "4.0", ".4", "4e0", "1e3", "0x4", "0b1", "0o7", "1_000", "1,000", "4a", "a4", "a", "４", "٤", "4\x00", "\x004", "4\n", "1000000\n", "/", ":", "4/", "4:"} {
		says(t, s, "version "+n, "what", "most "+n, "what")
	}
	for n := 0; n <= 1000000; n++ {
		if got := s.Do("most " + strconv.Itoa(n)); got != "ok" {
			t.Fatalf("most %d: %s", n, got)
		}
	}
}

// P17.1: most is what was told last, of the guards that begin behind it.
func TestP17_1Most(t *testing.T) {
	s := shell.New()
	says(t, s, "version 4", "ok")
	for n := range 200 {
		says(t, s, "most "+strconv.Itoa(n), "ok")
		if n < 2 {
			says(t, s, "begin", "argument")
			continue
		}
		// A header of two bytes, and as many behind as there may be, or one more.
		if 2 < n && n <= 129 {
			says(t, s, "begin", "ok", "c 10"+hex(n-2), "none", "phase", "fresh")
		}
		if n <= 128 {
			says(t, s, "begin", "ok", "c 10"+hex(n-1), "close c 149", "check", "ok")
		}
	}
	says(t, s, "most 14", "ok", "begin", "ok", "most 13", "ok", connect4, "forward c connect", "begin", "ok", connect4, "close c 149")
	says(t, s, "most 1000000", "ok", "begin", "ok", "c 10bc843d", "none", "begin", "ok", "c 10bd843d", "close c 149")
}

// hex answers a byte's two digits.
func hex(n int) string {
	const digits = "0123456789abcdef"
	return digits[n/16:n/16+1] + digits[n%16:n%16+1]
}

// P17.1: of another version, or too few bytes, nothing begins, and what was goes on.
func TestP17_1Argument(t *testing.T) {
	for _, wrong := range [][]string{{"version 6"}, {"version 0"}, {"version 3"}, {"version 45"}, {"version 1000000"}, {"most 0"}, {"most 1"}, {"most 0", "version 9"}} {
		s := shell.New()
		for _, line := range wrong {
			says(t, s, line, "ok")
		}
		says(t, s, "begin", "argument", "phase", "no guard", "check", "no guard", connect4, "no guard")

		s = begun(t, 4)
		says(t, s, join("c 32 05 0001 61 0007"), "forward c publish")
		for _, line := range wrong {
			says(t, s, line, "ok")
		}
		says(t, s, "begin", "argument", "phase", "open", "ids c", "7 1 0", "check", "ok", "s 40020007", "forward s puback", "check", "ok")
		says(t, s, "version 4", "ok", "most 100", "ok", "begin", "ok", "phase", "fresh", "ids c", "none")
	}
}

// P17.1: a guard's version is that with which it began; all else goes by what was told last.
func TestP17_1Version(t *testing.T) {
	s := shell.New()
	says(t, s, "version 4", "ok", "begin", "ok", "version 5", "ok", connect4, "forward c connect", connack4, "forward s connack", "check", "ok")
	says(t, s, "decode 4003000700", "puback", "version 4", "ok", "decode 4003000700", "malformed", "version 5", "ok", "c 4003000700", "close c 129", "check", "ok")
	says(t, s, "begin", "ok", "version 4", "ok", connect5, "forward c connect", connack5, "forward s connack", "check", "ok")
	says(t, s, join("c 32 06 0001 61 0007 00"), "forward c publish", "s 4003000700", "forward s puback", "check", "ok", "version 77", "ok", "c c000", "forward c pingreq", "check", "ok")
	says(t, s, "decode c000", "argument", "phase", "open", "begin", "argument", "check", "ok")
}

// P17.1: begin is a new guard, and no Actions.
func TestP17_1Begin(t *testing.T) {
	s := begun(t, 4)
	says(t, s, join("c 32 05 0001 61 0007"), "forward c publish", "c 32", "none", "begin", "ok", "phase", "fresh", "ids c", "none", "check", "ok")
	says(t, s, connect4, "forward c connect", "check", "ok", connect4, "close c 130", "phase", "over", "check", "ok", connect4, "none")
	says(t, s, "begin", "ok", "begin", "ok", "check", "ok", "phase", "fresh", connect4, "forward c connect", connack4, "forward s connack", "check", "ok", "c e000", "forward c disconnect", "phase", "over", "check", "ok")
}

// P17.1: how far a guard is.
func TestP17_1Phase(t *testing.T) {
	for _, version := range []int{4, 5} {
		s := shell.New()
		connect, connack := connect4, connack4
		if version == 5 {
			connect, connack = connect5, connack5
		}
		says(t, s, "version "+strconv.Itoa(version), "ok", "begin", "ok", "phase", "fresh", connect[:10], "none", "phase", "fresh", "c "+connect[10:], "forward c connect", "phase", "connected")
		says(t, s, connack[:4], "none", "phase", "connected", "s "+connack[4:], "forward s connack", "phase", "open", "c e000", "forward c disconnect", "phase", "over", "c e000", "none", "phase", "over")
	}
}

// P17.1: all that a Feed brings about, in its order, and each kind's name.
func TestP17_1Feed(t *testing.T) {
	s := begun(t, 5)
	says(t, s, "c -", "none", "s -", "none",
		join("c c000 32 06 0001 61 0001 00 c000"), "forward c pingreq;forward c publish;forward c pingreq",
		join("s d000 40 02 0001"), "forward s pingresp;forward s puback",
		join("c 34 06 0001 61 0002 00 82 07 0003 00 0001 61 01 a2 06 0004 00 0001 61"), "forward c publish;forward c subscribe;forward c unsubscribe",
		join("s 50 02 0002 90 04 0003 00 00 b0 04 0004 00 00"), "forward s pubrec;forward s suback;forward s unsuback",
		join("c 62 02 0002"), "forward c pubrel", join("s 70 02 0002"), "forward s pubcomp",
		join("s 34 06 0001 61 0002 00"), "forward s publish", join("c 50 02 0002"), "forward c pubrec", join("s 62 02 0002"), "forward s pubrel", join("c 70 02 0002"), "forward c pubcomp",
		join("c c000 c000 20"), "forward c pingreq;forward c pingreq", join("c 03 000000 c000"), "close c 130", "c c000", "none", "s d000", "none", "check", "ok")
	s = begun(t, 5)
	says(t, s, join("s d000 e000 d000"), "forward s pingresp;forward s disconnect", "c c000", "none", "phase", "over", "check", "ok")
	s = shell.New()
	says(t, s, "begin", "ok", join("c 10 11 00044d515454 05 02 0000 04 1500016d 0000"), "forward c connect", join("s f0 06 18 04 1500016d"), "forward s auth", join("c f0 06 18 04 1500016d f0 06 18 04 1500016d"), "forward c auth;close c 130", "check", "ok")
}

// P17.1: which code a Close tells.
func TestP17_1Close(t *testing.T) {
	for _, c := range []struct{ line, reply string }{
		{"c c00100", "close c 129"}, {"s d00100", "close s 129"}, {"c c0ffffffff", "close c 129"}, {"s d0808000", "close s 129"},
		{"c 2003000000", "close c 130"}, {"s c000", "close s 130"}, {"s 40020007", "close s 130"}, {"c 40020000", "close c 130"},
		{"c c0ff7f", "close c 149"}, {"s d0ffffff7f", "close s 149"},
		{join("c 30 07 0001 61 03 230001"), "close c 148"}, {join("s 30 07 0001 61 03 230001"), "close s 148"},
		{"c c000c000c00100", "forward c pingreq;forward c pingreq;close c 129"},
		{"s d000c000d000", "forward s pingresp;close s 130"},
	} {
		s := begun(t, 5)
		says(t, s, c.line, c.reply, "phase", "over", "check", "ok", "c c000", "none", "s d000", "none", "c -", "none", "ids c", "none", "check", "ok")
	}
	tight := func(props string, lines ...string) {
		t.Helper()
		s := shell.New()
		n := len(strings.ReplaceAll(props, " ", "")) / 2
		says(t, s, "begin", "ok", connect5, "forward c connect", join("s 20"+hex(3+n)+"0000"+hex(n)+props), "forward s connack")
		says(t, s, lines...)
		says(t, s, "phase", "over", "check", "ok")
	}
	tight("24 01", join("c 34 06 0001 61 0001 00"), "close c 155")
	tight("25 00", join("c 31 04 0001 61 00"), "close c 154")
	tight("21 0001", join("c 32 06 0001 61 0001 00 32 06 0001 61 0002 00"), "forward c publish;close c 147")
	tight("27 00000007", join("c 30 05 0001 61 00 78"), "forward c publish", join("c 30 06 0001 61 00 7878"), "close c 149")
	tight("28 00", join("c 82 07 0001 00 0001 23 00"), "close c 162")
	tight("29 00", join("c 82 09 0001 02 0b01 0001 61 00"), "close c 161")
	tight("2a 00", join("c 82 10 0001 00 000a 2473686172652f672f61 00"), "close c 158")
}

// P17.1: the numbers in use, of each side.
func TestP17_1Ids(t *testing.T) {
	s := begun(t, 5)
	says(t, s, "ids c", "none", "ids s", "none",
		join("c 32 06 0001 61 ffff 00"), "forward c publish", "ids c", "65535 1 0", "ids s", "none",
		join("c 34 06 0001 61 0003 00"), "forward c publish", "ids c", "3 2 0;65535 1 0",
		join("c 82 0b 0005 00 0001 61 01 0001 62 00"), "forward c subscribe", "ids c", "3 2 0;5 5 2;65535 1 0",
		join("c a2 06 0009 00 0001 61"), "forward c unsubscribe", "ids c", "3 2 0;5 5 2;9 6 1;65535 1 0",
		join("s 34 06 0001 61 0003 00"), "forward s publish", "ids s", "3 2 0",
		join("s 50 02 0003"), "forward s pubrec", "ids c", "3 3 0;5 5 2;9 6 1;65535 1 0",
		join("c 62 02 0003"), "forward c pubrel", "ids c", "3 4 0;5 5 2;9 6 1;65535 1 0", "ids s", "3 2 0",
		join("s 70 02 0003"), "forward s pubcomp", "ids c", "5 5 2;9 6 1;65535 1 0",
		join("s 90 05 0005 00 00 80"), "forward s suback", "ids c", "9 6 1;65535 1 0",
		join("c 50 03 0003 80"), "forward c pubrec", "ids s", "none",
		"c e000", "forward c disconnect", "ids c", "9 6 1;65535 1 0", "check", "ok")
	s = begun(t, 4)
	says(t, s, join("c a2 08 0009 0001 61 0001 62"), "forward c unsubscribe", "ids c", "9 6 0")
}

// P17.1: what numbers stand for, of each side: topics as they are, whatever signs they have.
func TestP17_1Aliases(t *testing.T) {
	s := shell.New()
	says(t, s, "begin", "ok", join("c 10 10 00044d515454 05 02 0000 03 220002 0000"), "forward c connect", join("s 20 06 0000 03 22ffff"), "forward s connack",
		"aliases c", "none", "aliases s", "none",
		join("c 30 08 0002 612f 03 23ffff"), "forward c publish", "aliases c", "65535 a/", "aliases s", "none",
		join("c 30 0a 0004 61203b62 03 230002"), "forward c publish", "aliases c", "2 a ;b;65535 a/",
		join("c 30 06 0000 03 230002"), "forward c publish", "aliases c", "2 a ;b;65535 a/",
		join("c 30 08 0002 c3a4 03 23ffff"), "forward c publish", "aliases c", "2 a ;b;65535 ä",
		join("c 30 07 0001 20 03 230001"), "forward c publish", "aliases c", "1  ;2 a ;b;65535 ä",
		join("s 30 07 0001 0a 03 230002"), "forward s publish", "aliases s", "2 \n",
		join("s 30 07 0001 61 03 230003"), "close s 148", "aliases s", "2 \n", "aliases c", "1  ;2 a ;b;65535 ä", "check", "ok")
}

// P17.1: decode, of both versions and of others, without a guard and with one, which isn't touched.
func TestP17_1Decode(t *testing.T) {
	names := map[string]string{
		connect4: "connect", connack4: "connack", "c 3003000161": "publish", "c 40020007": "puback", "c 50020007": "pubrec", "c 62020007": "pubrel", "c 70020007": "pubcomp",
		join("c 82 06 0007 0001 61 00"): "subscribe", join("c 90 03 0007 00"): "suback", join("c a2 05 0007 0001 61"): "unsubscribe", join("c b0 02 0007"): "unsuback",
		"c c000": "pingreq", "c d000": "pingresp", "c e000": "disconnect"}
	s := begun(t, 4)
	for line, name := range names {
		says(t, s, "decode "+line[2:], name, "decode "+line[2:]+"00", "malformed", "decode "+line[2:len(line)-2], "malformed")
	}
	says(t, s, "decode f000", "malformed", "decode -", "malformed", "decode 00", "malformed", "decode 40020000", "protocol", "decode e00100", "malformed", "decode 3200", "malformed", "decode "+connect5[2:], "malformed",
		"phase", "open", "check", "ok", "ids c", "none")
	says(t, s, "version 5", "ok", "decode f000", "protocol", "decode f00618041500016d", "auth", "decode e00100", "disconnect", "decode 40020000", "protocol", "decode -", "malformed", "decode "+connect4[2:], "malformed", "decode "+connect5[2:], "connect", "decode "+connack4[2:], "malformed")
	for _, version := range []string{"0", "3", "6", "1000000"} {
		says(t, s, "version "+version, "ok", "decode c000", "argument", "decode -", "argument", "decode 00", "argument", "decode 40020000", "argument", "decode 4", "what", "decode", "what")
	}
	says(t, s, "most 2", "ok", "version 4", "ok", "decode 40020007", "puback", "phase", "open", "check", "ok")
}

// P17.1: check, without Actions and with some.
func TestP17_1Check(t *testing.T) {
	s := shell.New()
	says(t, s, "check", "no guard", "begin", "ok", "check", "ok", "c 10", "none", "check", "ok", "c ffffffff", "close c 129", "check", "ok", "check", "ok")
	s = begun(t, 5)
	for range 300 {
		says(t, s, "c c000", "forward c pingreq", "check", "ok", "s d000d0", "forward s pingresp", "check", "ok", "s 00", "forward s pingresp", "check", "ok")
	}
	says(t, s, connect5, "close c 130", "check", "ok")
}

// P17.1: Lines of none are none.
func TestP17_1Lines(t *testing.T) {
	if got := shell.Lines(nil); len(got) != 0 {
		t.Error(got)
	}
	if got := shell.Lines([]string{}); len(got) != 0 {
		t.Error(got)
	}
	if got := shell.Lines([]string{"", "phase", "version 4", "begin", connect4, "phase", "x"}); !slices.Equal(got, []string{"what", "no guard", "ok", "ok", "forward c connect", "connected", "what"}) {
		t.Errorf("%q", got)
	}
}
