package msh

import (
	"slices"
	"strings"
	"testing"

	"lamplighter/api"
)

var plain = api.Delims{Field: '|', Part: '^', Again: '~', Escape: '\\', Sub: '&'}

func head(l ...string) api.Head {
	l = append(l, make([]string, 10)...)
	return api.Head{Delims: plain, App: l[0], Facility: l[1], ToApp: l[2], ToFacility: l[3], Time: l[4], Security: l[5], Type: l[6], Id: l[7], Process: l[8], Version: l[9]}
}

func right() api.Head { return head("A", "B", "C", "D", "1", "", "ADT^A01", "7", "P", "2.5") }

// P9.1: Read.
func TestRead(t *testing.T) {
	for s, want := range map[string]api.Head{
		"MSH|^~\\&|A|B|C|D|1||ADT^A01|7|P|2.5":                         right(),
		"MSH|^~\\&|A|B|C|D|1||ADT^A01|7|P|2.5\r":                       right(),
		"MSH|^~\\&|A|B|C|D|1||ADT^A01|7|P|2.5|x|y\rPID|1\rMSH|^~\\&|Z": right(),
		"MSH|^~\\&|":                        head(),
		"MSH|^~\\&\r":                       head(),
		"MSH|^~\\&\rPID|a|b|c|d":            head(),
		"MSH|^~\\&|A":                       head("A"),
		"MSH|^~\\&|A|B|C|D|1|S":             head("A", "B", "C", "D", "1", "S"),
		"MSH|^~\\&||\\F\\^&|~\n":            head("", "\\F\\^&", "~\n"),
		"MSH|^~\\&||||||||x":                head("", "", "", "", "", "", "", "x"),
		"MSH|^~\\&|a|b|c|d|e|f|g|h|i|j|k|l": head("a", "b", "c", "d", "e", "f", "g", "h", "i", "j"),
	} {
		if h, e := Read([]byte(s)); h != want || e != api.OK {
			t.Errorf("%q: %+v %v", s, h, e)
		}
	}
	h, e := Read([]byte("MSH!#$%*!A!|"))
	if want := (api.Head{Delims: api.Delims{Field: '!', Part: '#', Again: '$', Escape: '%', Sub: '*'}, App: "A", Facility: "|"}); h != want || e != api.OK {
		t.Errorf("other signs: %+v %v", h, e)
	}
}

// P9.1: what has no head.
func TestReadWrong(t *testing.T) {
	for s, want := range map[string]api.Errno{
		"":               api.ErrShort,
		"MSH|^~\\&":      api.ErrShort,
		"PID|^~\\&|":     api.ErrHead,
		"MSH|^^\\&|A":    api.ErrHead,
		"MSH|^~\\&x|A":   api.ErrHead,
		"MSH|^~\\&^|A":   api.ErrHead,
		"MSH|^~\\|A|B|C": api.ErrHead,
		"MSH|^~\\&&|A":   api.ErrHead,
		"MSH|^~\\\r&|A":  api.ErrHead,
	} {
		if h, e := Read([]byte(s)); h != (api.Head{}) || e != want {
			t.Errorf("%q: %+v %v, not %v", s, h, e, want)
		}
	}
}

// P9.2: Versions, in new memory.
func TestVersions(t *testing.T) {
	want := []string{"2.1", "2.2", "2.3", "2.3.1", "2.4", "2.5", "2.5.1", "2.6", "2.7", "2.8"}
	l := Versions()
	if !slices.Equal(l, want) {
		t.Errorf("%q", l)
	}
	l[0] = "x"
	if !slices.Equal(Versions(), want) {
		t.Errorf("%q", Versions())
	}
	h := right()
	h.Version = "x"
	if Check(h) != api.ErrVersion {
		t.Error("a version that was laid into an answer is known")
	}
}

// P9.2: Check, and the order of its errors.
func TestCheck(t *testing.T) {
	for _, c := range []struct {
		name   string
		change func(h *api.Head)
		e      api.Errno
	}{
		{"right", func(h *api.Head) {}, api.OK},
		{"no type", func(h *api.Head) { h.Type = "" }, api.ErrField},
		{"no id", func(h *api.Head) { h.Id = "" }, api.ErrField},
		{"id of 50", func(h *api.Head) { h.Id = strings.Repeat("x", 50) }, api.OK},
		{"id of 51", func(h *api.Head) { h.Id = strings.Repeat("x", 51) }, api.ErrField},
		{"no id, version 9", func(h *api.Head) { h.Id, h.Version = "", "9" }, api.ErrField},
		{"version 9", func(h *api.Head) { h.Version = "9" }, api.ErrVersion},
		{"no version", func(h *api.Head) { h.Version = "" }, api.ErrVersion},
		{"version 2", func(h *api.Head) { h.Version = "2" }, api.ErrVersion},
		{"version 2.50", func(h *api.Head) { h.Version = "2.50" }, api.ErrVersion},
		{"version 9, process X", func(h *api.Head) { h.Version, h.Process = "9", "X" }, api.ErrVersion},
		{"process X", func(h *api.Head) { h.Process = "X" }, api.ErrProcess},
		{"no process", func(h *api.Head) { h.Process = "" }, api.ErrProcess},
		{"process p", func(h *api.Head) { h.Process = "p" }, api.ErrProcess},
		{"process PP", func(h *api.Head) { h.Process = "PP" }, api.ErrProcess},
		{"process T", func(h *api.Head) { h.Process = "T" }, api.OK},
		{"process D", func(h *api.Head) { h.Process = "D" }, api.OK},
		{"components", func(h *api.Head) { h.Process, h.Version = "P^A", "2.3^x~9" }, api.OK},
		{"repetitions", func(h *api.Head) { h.Process, h.Version = "P~X", "2.3~9" }, api.OK},
		{"second ones", func(h *api.Head) { h.Version = "9~2.5" }, api.ErrVersion},
		{"second component", func(h *api.Head) { h.Process = "^P" }, api.ErrProcess},
		{"subcomponents", func(h *api.Head) { h.Process = "P&A" }, api.ErrProcess},
		{"other signs", func(h *api.Head) { h.Part, h.Version = '!', "2.5!x" }, api.OK},
		{"no signs", func(h *api.Head) { h.Delims, h.Version = api.Delims{}, "2.5\x00x" }, api.OK},
		{"no signs, a plain one", func(h *api.Head) { h.Delims, h.Version = api.Delims{}, "2.5^x" }, api.ErrVersion},
	} {
		h := right()
		c.change(&h)
		if e := Check(h); e != c.e {
			t.Errorf("%s: %v, not %v", c.name, e, c.e)
		}
	}
	for _, v := range Versions() {
		h := right()
		h.Version = v
		if e := Check(h); e != api.OK {
			t.Errorf("version %s: %v", v, e)
		}
	}
	if e := Check(api.Head{}); e != api.ErrField {
		t.Errorf("no head: %v", e)
	}
}

// P9.3: Write.
func TestWrite(t *testing.T) {
	for want, h := range map[string]api.Head{
		"MSH|^~\\&|A|B|C|D|1||ADT^A01|7|P|2.5": right(),
		"MSH|^~\\&":                            head(),
		"MSH|^~\\&|A":                          head("A"),
		"MSH|^~\\&||||||||7":                   head("", "", "", "", "", "", "", "7"),
		"MSH|^~\\&||||||||||2.5":               head("", "", "", "", "", "", "", "", "", "2.5"),
		"MSH|^~\\&|^~\\&\x0b\x1c\n":            head("^~\\&\x0b\x1c\n"),
	} {
		if s, e := Write(h); s != want || e != api.OK {
			t.Errorf("%q %v, not %q", s, e, want)
		}
	}
}

// P9.3: what may not be written: each of the ten texts, and the signs.
func TestWriteWrong(t *testing.T) {
	for i := range 10 {
		for _, text := range []string{"|", "\r", "a|b", "a\r"} {
			l := make([]string, 10)
			l[i] = text
			if s, e := Write(head(l...)); s != "" || e != api.ErrForm {
				t.Errorf("text %d is %q: %q %v", i, text, s, e)
			}
		}
	}
	for _, d := range []api.Delims{{}, {Field: '|', Part: '|', Again: '~', Escape: '\\', Sub: '&'}, {Field: 'A', Part: '^', Again: '~', Escape: '\\', Sub: '&'}} {
		h := right()
		h.Delims, h.App = d, "\r"
		if s, e := Write(h); s != "" || e != api.ErrHead {
			t.Errorf("signs %v: %q %v", d, s, e)
		}
	}
}

// P9.4: what is written, with a 13 behind, is read as that head.
func TestReadWritten(t *testing.T) {
	texts := []string{"", "x", "a^b~c&d\\F\\", "!\x0b\n\x1c\xff"}
	for i := range 1 << 12 {
		l := make([]string, 10)
		for j := range l {
			l[j] = texts[(i*(j+1)>>(j%4))%4]
		}
		for _, d := range []api.Delims{plain, {Field: '=', Part: '|', Again: '^', Escape: '.', Sub: ','}} {
			h := head(l...)
			h.Delims = d
			s, e := Write(h)
			if e != api.OK {
				t.Fatalf("%+v: %v", h, e)
			}
			for _, behind := range []string{"\r", "\rPID|x|y\r"} {
				if got, e := Read([]byte(s + behind)); got != h || e != api.OK {
					t.Fatalf("%q: %+v %v", s+behind, got, e)
				}
			}
		}
	}
}
