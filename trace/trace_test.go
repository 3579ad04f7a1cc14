package trace

import (
	"bytes"
	"math"
	"reflect"
	"strings"
	"testing"

	"lamplighter/api"
)

// P19.1: the text of bytes, and the other way about.
func TestHexBytes(t *testing.T) {
	for want, b := range map[string][]byte{"-": {}, "00": {0}, "ff": {255}, "0b0d": {11, 13}, "1c0d0b": {28, 13, 11}, "a9": {0xa9}} {
		if got := Hex(b); got != want {
			t.Errorf("Hex(%v): %s", b, got)
		}
		if got, ok := Bytes(want); !bytes.Equal(got, b) || !ok {
			t.Errorf("Bytes(%s): %v %v", want, got, ok)
		}
	}
	if Hex(nil) != "-" {
		t.Errorf("none: %s", Hex(nil))
	}
	for c := range 256 {
		if got, ok := Bytes(Hex([]byte{byte(c), 7})); !bytes.Equal(got, []byte{byte(c), 7}) || !ok {
			t.Errorf("%d: %v %v", c, got, ok)
		}
	}
	for _, s := range []string{"", "--", "-0", "0", "000", "0B", "FF", "0g", "g0", "0x", " 00", "00 ", "0 0", "00-", "\xff0", "00\n"} {
		if got, ok := Bytes(s); len(got) != 0 || ok {
			t.Errorf("Bytes(%q): %v %v", s, got, ok)
		}
	}
}

// texts are events and their texts.
var texts = []struct {
	s string
	e api.Event
}{
	{"in -", api.Event{Kind: api.In}},
	{"in 0b0d", api.Event{Kind: api.In, Data: []byte{11, 13}}},
	{"out -", api.Event{Kind: api.Out}},
	{"out 00", api.Event{Kind: api.Out, Data: []byte{0}}},
	{"drop in", api.Event{Kind: api.DropIn}},
	{"drop out", api.Event{Kind: api.DropOut}},
	{"tick 0", api.Event{Kind: api.Tick}},
	{"tick -5", api.Event{Kind: api.Tick, N: -5}},
	{"tick 999999999999999999", api.Event{Kind: api.Tick, N: 999999999999999999}},
	{"room 10", api.Event{Kind: api.Room, N: 10}},
	{"failsync 1", api.Event{Kind: api.FailSync, N: 1}},
	{"arm 3 -1", api.Event{Kind: api.Arm, N: 3, Keep: -1}},
	{"arm 0 0", api.Event{Kind: api.Arm}},
	{"power 0", api.Event{Kind: api.Power}},
	{"power -999999999999999999", api.Event{Kind: api.Power, Keep: -999999999999999999}},
}

// P19.1: events' texts, both ways.
func TestEventRead(t *testing.T) {
	for _, c := range texts {
		if s, e := Event(c.e); s != c.s || e != api.OK {
			t.Errorf("%+v: %q %v", c.e, s, e)
		}
		if got, e := Read(c.s); !reflect.DeepEqual(got, c.e) || e != api.OK {
			t.Errorf("%q: %+v %v", c.s, got, e)
		}
	}
}

// P19.1: events that have no text, and the order of errors.
func TestEventWrong(t *testing.T) {
	data := []byte{0}
	for _, c := range []struct {
		e    api.Event
		want api.Errno
	}{
		{api.Event{Kind: -1}, api.ErrKind},
		{api.Event{Kind: 9, N: 1}, api.ErrKind},
		{api.Event{Kind: math.MaxInt}, api.ErrKind},
		{api.Event{Kind: math.MinInt}, api.ErrKind},
		{api.Event{Kind: api.In, N: 1}, api.ErrForm},
		{api.Event{Kind: api.In, Keep: 1, Data: data}, api.ErrForm},
		{api.Event{Kind: api.Out, N: -1}, api.ErrForm},
		{api.Event{Kind: api.Out, Keep: 1}, api.ErrForm},
		{api.Event{Kind: api.DropIn, N: 1}, api.ErrForm},
		{api.Event{Kind: api.DropIn, Keep: 1}, api.ErrForm},
		{api.Event{Kind: api.DropIn, Data: data}, api.ErrForm},
		{api.Event{Kind: api.DropOut, N: 1}, api.ErrForm},
		{api.Event{Kind: api.DropOut, Data: data}, api.ErrForm},
		{api.Event{Kind: api.Tick, Keep: 1}, api.ErrForm},
		{api.Event{Kind: api.Tick, Data: data}, api.ErrForm},
		{api.Event{Kind: api.Room, Keep: 1}, api.ErrForm},
		{api.Event{Kind: api.FailSync, Keep: 1}, api.ErrForm},
		{api.Event{Kind: api.Arm, Data: data}, api.ErrForm},
		{api.Event{Kind: api.Power, N: 1}, api.ErrForm},
		{api.Event{Kind: api.Power, Data: data}, api.ErrForm},
	} {
		if s, e := Event(c.e); s != "" || e != c.want {
			t.Errorf("%+v: %q %v", c.e, s, e)
		}
	}
	if s, e := Event(api.Event{Kind: api.Tick, N: 3, Data: []byte{}}); s != "tick 3" || e != api.OK {
		t.Errorf("an empty list: %q %v", s, e)
	}
	if s, e := Event(api.Event{Kind: api.Arm, N: math.MinInt, Keep: math.MaxInt}); s != "arm -9223372036854775808 9223372036854775807" || e != api.OK {
		t.Errorf("great numbers: %q %v", s, e)
	}
}

// P19.1: texts that are no event's.
func TestReadWrong(t *testing.T) {
	for _, s := range []string{
		"", " ", "in", "in ", "in  -", "in - ", " in -", "in - -", "in 0", "in 0B", "in 00 00", "in 00\n", "IN -",
		"out", "out 1", "drop", "drop ", "drop tick", "drop in -", "drop in ", "drop  in", "drop\tin", "drop out 1",
		"tick", "tick ", "tick 05", "tick -0", "tick +5", "tick 5 5", "tick a", "tick 1000000000000000000", "tick -1000000000000000000", "tick  5",
		"room", "room x", "room 1 2", "failsync", "failsync -", "arm", "arm 1", "arm 1 ", "arm  1 2", "arm 1 2 3", "arm 1 2 ", "arm x 2", "arm 1 x",
		"power", "power 1 2", "gone", "back -", "on -", "tick5", "ticks 5", "in-", strings.Repeat(" ", 100),
	} {
		if got, e := Read(s); !reflect.DeepEqual(got, api.Event{}) || e != api.ErrForm {
			t.Errorf("%q: %+v %v", s, got, e)
		}
	}
}

// steps are some of all forms.
func steps() []api.Step {
	var l []api.Step
	for i, c := range texts {
		step := api.Step{Event: c.e, Crashed: i%3 == 2}
		for k := range i % 4 {
			step.Outputs = append(step.Outputs, api.Output{Back: (i+k)%2 == 0, Data: bytes.Repeat([]byte{byte(i)}, k)})
		}
		l = append(l, step)
	}
	return l
}

// same asks whether steps are the same, an empty list as none.
func same(a, b []api.Step) bool {
	s, e := Format(a...)
	u, f := Format(b...)
	return len(a) == len(b) && s == u && e == f
}

// P19.2: the text of steps.
func TestFormat(t *testing.T) {
	for _, c := range []struct {
		want string
		l    []api.Step
	}{
		{"", nil},
		{"in 0b0d\nback -\n", []api.Step{{Event: api.Event{Data: []byte{11, 13}}, Outputs: []api.Output{{Back: true}}}}},
		{"tick 1\n", []api.Step{{Event: api.Event{Kind: api.Tick, N: 1}}}},
		{"power 2\ngone\n", []api.Step{{Event: api.Event{Kind: api.Power, Keep: 2}, Crashed: true}}},
		{"in -\nback 07\non -\non 08\ngone\ndrop in\n", []api.Step{
			{Event: api.Event{}, Outputs: []api.Output{{Back: true, Data: []byte{7}}, {}, {Data: []byte{8}}}, Crashed: true},
			{Event: api.Event{Kind: api.DropIn}},
		}},
	} {
		if s, e := Format(c.l...); s != c.want || e != api.OK {
			t.Errorf("%q %v, not %q", s, e, c.want)
		}
		lines := strings.Count(c.want, "\n")
		if l, n, e := Parse(c.want); !same(l, c.l) || n != lines || e != api.OK {
			t.Errorf("%q: %+v %d %v", c.want, l, n, e)
		}
	}
}

// P19.2: Format's error is that of the first step that has one.
func TestFormatWrong(t *testing.T) {
	right, kind, form := api.Step{}, api.Step{Event: api.Event{Kind: 9}}, api.Step{Event: api.Event{N: 1}}
	for _, c := range []struct {
		l []api.Step
		e api.Errno
	}{{[]api.Step{right, kind, form}, api.ErrKind}, {[]api.Step{right, form, kind}, api.ErrForm}, {[]api.Step{form}, api.ErrForm}} {
		if s, e := Format(c.l...); s != "" || e != c.e {
			t.Errorf("%+v: %q %v", c.l, s, e)
		}
	}
}

// P19.2: which line is wrong.
func TestParseWrong(t *testing.T) {
	for s, line := range map[string]int{
		"tick 05\n":                       0,
		"\n":                              0,
		"tick 5":                          0,
		"x":                               0,
		"back -\n":                        0,
		"on 00\ntick 5\n":                 0,
		"gone\n":                          0,
		"tick 5\ntick 5":                  1,
		"tick 5\n\n":                      1,
		"tick 5\n ":                       1,
		"tick 5\r\n":                      0,
		"tick 5\nback\n":                  1,
		"tick 5\nback  -\n":               1,
		"tick 5\nback 0\n":                1,
		"tick 5\non 0A\n":                 1,
		"tick 5\nback 00 \n":              1,
		"tick 5\nback 00\non\n":           2,
		"tick 5\ngone\ngone\n":            2,
		"tick 5\ngone\nback -\n":          2,
		"tick 5\ngone\non -\n":            2,
		"tick 5\ngone \n":                 1,
		"tick 5\ngone\ntick 6\ngone":      3,
		"in -\nback -\ntick 6\nback -0\n": 3,
		"tick 5\nxyz\ntick 05":            1,
		"tick 5\n00\n":                    1,
		"tick 5\n-\n":                     1,
	} {
		if l, n, e := Parse(s); len(l) != 0 || n != line || e != api.ErrForm {
			t.Errorf("%q: %+v, line %d, %v", s, l, n, e)
		}
	}
}

// P19.3: steps' text is parsed as them, and what is parsed is written as that text.
func TestBothWays(t *testing.T) {
	s, e := Format(steps()...)
	if e != api.OK {
		t.Fatal(e)
	}
	l, n, e := Parse(s)
	if e != api.OK || n != strings.Count(s, "\n") || len(l) != len(steps()) {
		t.Fatalf("%d steps, %d lines, %v", len(l), n, e)
	}
	for i, want := range steps() {
		got := l[i]
		if !reflect.DeepEqual(got.Event, want.Event) || got.Crashed != want.Crashed || len(got.Outputs) != len(want.Outputs) {
			t.Errorf("step %d: %+v, not %+v", i, got, want)
			continue
		}
		for k, o := range want.Outputs {
			if got.Outputs[k].Back != o.Back || !bytes.Equal(got.Outputs[k].Data, o.Data) {
				t.Errorf("step %d, output %d: %+v, not %+v", i, k, got.Outputs[k], o)
			}
		}
	}
	if u, e := Format(l...); u != s || e != api.OK {
		t.Errorf("%q %v, not %q", u, e, s)
	}
}

// P19.3: every cut of a text is parsed and written as it is, or wrong.
func TestCuts(t *testing.T) {
	s, _ := Format(steps()...)
	for i := range len(s) {
		l, n, e := Parse(s[:i])
		if whole := i == 0 || s[i-1] == '\n'; whole != (e == api.OK) || n != strings.Count(s[:i], "\n") {
			t.Fatalf("cut at %d: %d %v", i, n, e)
		}
		if e == api.OK {
			if u, _ := Format(l...); u != s[:i] {
				t.Fatalf("cut at %d: %q", i, u)
			}
		}
	}
}
