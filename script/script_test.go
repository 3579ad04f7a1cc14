package script

import (
	"strings"
	"testing"

	"lamplighter/api"
	"lamplighter/trace"
)

func right(id string) string {
	return "MSH|^~\\&|A|B|C|D|1||ADT|" + id + "|P|2.5\rPID|x\r"
}

func framed(s string) []byte { return []byte("\x0b" + s + "\x1c\r") }

// hex is the text of a frame of s.
func hex(s string) string { return trace.Hex(framed(s)) }

// back is the line that tells an answer to a message of that Id.
func back(code, id string) string {
	return "back " + hex("MSH|^~\\&|C|D|A|B|1||ACK|"+id+"|P|2.5\rMSA|"+code+"|"+id+"\r")
}

// answer is the line of an answer to a record.
func answer(code, id string) string {
	return "out " + hex("MSH|^~\\&|\rMSA|"+code+"|"+id+"\r")
}

const begin = "begin 1000 200 3 20 5 2 1"

type line struct{ line, want string }

func wantAll(t *testing.T, l []line) {
	t.Helper()
	s := New()
	for i, x := range l {
		if got := s.Do(x.line); got != x.want {
			t.Errorf("line %d, %q: %q, not %q", i, x.line, got, x.want)
		}
	}
}

// The chapter's examples.
func TestExamples(t *testing.T) {
	wantAll(t, []line{
		{"begin 1000 200 2 8 5 2 1", "ok"},
		{"tick 3", "-"},
		{"log", "0 at 0"},
		{"kept 0", "error 3"},
		{"begin 1 1 1 1 0 1 1", "error 3"},
		{"log", "0 at 0"},
	})
}

// P22.1: a session of messages, answers, and a power that goes.
func TestSession(t *testing.T) {
	wantAll(t, []line{
		{begin, "ok"},
		{"in " + hex(right("1")), back("AA", "1") + ", on " + hex(right("1"))},
		{"log", "1 at 0 flies"},
		{"kept 0", trace.Hex([]byte(right("1")))},
		{"kept 1", "error 3"},
		{"kept -1", "error 3"},
		{"in " + hex(right("2")) + hex(right("")), back("AA", "2") + ", " + back("AE", "")},
		{answer("AE", "1"), "-"},
		{"log", "2 at 0"},
		{"tick 3", "on " + hex(right("1"))},
		{answer("AA", "1"), "on " + hex(right("2"))},
		{"log", "2 at 1 flies"},
		{"power 0", "on " + hex(right("2")) + ", gone"},
		{"audit", "best 1 sent 4 lost 1"},
		{answer("AA", "2"), "-"},
		{"log", "2 at 2"},
		{"power -1", "gone"},
		{"arm 1 0", "-"},
		{"in " + hex(right("3")), "gone"},
		{"failsync 1", "-"},
		{"in " + hex(right("3")), back("AE", "3")},
		{"room 0", "-"},
		{"in " + hex(right("3")), back("AE", "3")},
		{"drop in", "-"},
		{"drop out", "-"},
		{"in -", "-"},
		{"audit", "best 2 sent 4 lost 3"},
		{"log", "2 at 2"},
	})
}

// P22.1: refused events are steps, too; begin begins anew, but not when it is refused.
func TestRefused(t *testing.T) {
	wantAll(t, []line{
		{begin, "ok"},
		{"tick -1", "error 3"},
		{"room -1", "error 3"},
		{"room 1073741825", "error 3"},
		{"failsync 0", "error 3"},
		{"arm 0 1", "error 3"},
		{"in " + hex(right("1")), back("AA", "1") + ", on " + hex(right("1"))},
		{"audit", "best 0 sent 1 lost 0"},
		{"begin -1 200 3 20 5 2 1", "error 3"},
		{"begin 1000 0 3 20 5 2 1", "error 3"},
		{"begin 1000 200 -3 20 5 2 1", "error 3"},
		{"log", "1 at 0 flies"},
		{"audit", "best 0 sent 1 lost 0"},
		{begin, "ok"},
		{"log", "0 at 0"},
		{"audit", "best 0 sent 0 lost 0"},
	})
}

// P22.1: audit's error and its step. A record that may not be in a frame is sent as no bytes, and these are no frame.
func TestAuditError(t *testing.T) {
	wantAll(t, []line{
		{begin, "ok"},
		{"tick -1", "error 3"},
		{"tick 1", "-"},
		{"in " + hex(right("1")+"\x1c"), "on -"},
		{"audit", "error 7 at 2"},
	})
}

// P22.1: the numbers of begin, one by one.
func TestBegin(t *testing.T) {
	long := right("1")
	wantAll(t, []line{
		{"begin 0 1 0 0 1 0 1", "ok"},
		{"in " + hex(long), "-"},
		{"begin 20 200 3 20 5 2 1", "ok"},
		{"in " + hex(long), back("AE", "1")},
		{"begin 1000 200 3 20 1 2 1", "ok"},
		{"in " + hex(long), back("AA", "1") + ", on " + hex(long)},
		{"tick 1", "-"},
		{"tick 2", "-"},
		{"tick 1", "on " + hex(long)},
		{"begin 1000 200 4 5 1 3 2", "ok"},
		{"in " + hex(long), back("AA", "1") + ", on " + hex(long)},
		{"tick 5", "on " + hex(long)},
		{"tick 5", "-"},
		{"tick 1", "on " + hex(long)},
		{"begin 1000 200 4 100 1 1 3", "ok"},
		{"in " + hex(long), back("AA", "1") + ", on " + hex(long)},
		{"tick 5", "on " + hex(long)},
		{"tick 1", "-"},
		{"tick 1", "on " + hex(long)},
		{"begin 1000 200 4 7 1 0 0", "ok"},
		{"in " + hex(long), back("AA", "1") + ", on " + hex(long)},
		{"tick 5", "on " + hex(long)},
		{"tick 7", "-"},
		{"tick 1", "on " + hex(long)},
		{"begin 1000 200 4 7 1 -1 0", "ok"},
		{"in " + hex(long), back("AA", "1") + ", on " + hex(long)},
		{"tick 5", "on " + hex(long)},
		{"tick 1", "on " + hex(long)},
		{"begin 999999999999999999 200 4 7 1 -1 0", "error 3"},
	})
}

// P22.1: lines of no form, with a relay and without.
func TestNoForm(t *testing.T) {
	wrong := []string{
		"", " ", "xyz", "begin", "begin ", begin + " ", " " + begin, begin + " 1", "begin 1 1 1 1 1 1", "begin  1 1 1 1 1 1 1", "Begin 1 1 1 1 1 1 1",
		"begin 1 1 1 1 1 1 x", "begin 01 1 1 1 1 1 1", "begin 1 1 1 1 1 1 1000000000000000000", "begin -0 1 1 1 1 1 1", "begin 1 1 1 1 1 1 1.5",
		"tick", "tick 05", "tick 1 ", "tick 1000000000000000000", "in", "in 0", "in 0B", "back -", "on -", "gone",
		"log ", " log", "log 1", "LOG", "0", "-1", "-", "kept", "kept ", "kept x", "kept 00", "kept 1 2", "kept  1", "kept -0", "kept 1000000000000000000", "audit ", "audit 1", "audits", "tick 1\n", "log\n", "log\nlog",
	}
	bare, full := New(), New()
	full.Do(begin)
	for _, l := range wrong {
		if got := bare.Do(l); got != "error 10" {
			t.Errorf("%q, without a relay: %q", l, got)
		}
		if got := full.Do(l); got != "error 10" {
			t.Errorf("%q: %q", l, got)
		}
	}
	if got := full.Do("audit"); got != "best 0 sent 0 lost 0" {
		t.Errorf("%q", got)
	}
}

// P22.1: without a relay.
func TestNoRelay(t *testing.T) {
	for _, s := range []*Session{New(), refused(t)} {
		for _, l := range []string{"log", "kept 0", "kept -1", "audit", "in -", "out 00", "drop in", "drop out", "tick 1", "tick -1", "room 1", "failsync 1", "arm 1 1", "power 0"} {
			if got := s.Do(l); got != "error 15" {
				t.Errorf("%q: %q", l, got)
			}
		}
		if got := s.Do(begin); got != "ok" {
			t.Errorf("%q", got)
		}
	}
}

// refused is a session whose begin was refused.
func refused(t *testing.T) *Session {
	t.Helper()
	s := New()
	if got := s.Do("begin -1 1 1 1 1 1 1"); got != "error 3" {
		t.Errorf("%q", got)
	}
	return s
}

// The line on nil sessions.
func TestNil(t *testing.T) {
	var s *Session
	for _, l := range []string{"", begin, "log", "xyz"} {
		if got := s.Do(l); got != "error 1" {
			t.Errorf("%q: %q", l, got)
		}
	}
}

// P22.2: Run.
func TestRun(t *testing.T) {
	for text, want := range map[string]string{
		"":                                "",
		"\n\n":                            "",
		"log":                             "error 15\n",
		"log\n":                           "error 15\n",
		"\nlog\n\nxyz\n":                  "error 15\nerror 10\n",
		begin + "\nlog\r\nlog\n \ntick 1": "ok\nerror 10\n0 at 0\nerror 10\n-\n",
	} {
		if got, e := Run(text); got != want || e != api.OK {
			t.Errorf("%q: %q %v", text, got, e)
		}
	}
}

// P22.2: how many lines a text may have.
func TestRunLong(t *testing.T) {
	for _, c := range []struct {
		text string
		n    int
		e    api.Errno
	}{
		{strings.Repeat("log\n", 4095), 4095, api.OK},
		{strings.Repeat("log\n", 4095) + "log", 4096, api.OK},
		{strings.Repeat("\n", 4095), 0, api.OK},
		{strings.Repeat("log\n", 4096), 0, api.ErrLong},
		{strings.Repeat("\n", 4096), 0, api.ErrLong},
		{strings.Repeat("\n", 100000), 0, api.ErrLong},
	} {
		if got, e := Run(c.text); got != strings.Repeat("error 15\n", c.n) || e != c.e {
			t.Errorf("%d bytes: %d bytes, %v", len(c.text), len(got), e)
		}
	}
}

// Promise P2: two sessions have nothing to do with one another.
func TestApart(t *testing.T) {
	a, b := New(), New()
	a.Do(begin)
	if got := b.Do("log"); got != "error 15" {
		t.Errorf("%q", got)
	}
	b.Do(begin)
	a.Do("in " + hex(right("1")))
	if got := b.Do("log"); got != "0 at 0" {
		t.Errorf("%q", got)
	}
}
