package delim

import (
	"slices"
	"testing"

	"lamplighter/api"
)

func signs(s string) api.Delims {
	return api.Delims{Field: s[0], Part: s[1], Again: s[2], Escape: s[3], Sub: s[4]}
}

// P6.1: which signs may be.
func TestRight(t *testing.T) {
	for _, s := range []string{"|^~\\&", "&\\~^|", "!\"#$%", "~}|{`", "_^][@", "?>=<;", ":/.-,"} {
		if !Right(signs(s)) {
			t.Errorf("%s may not be", s)
		}
	}
	for _, s := range []string{"||~\\&", "|^|\\&", "|^~|&", "|^~\\|", "|^^\\&", "|^~^&", "|^~\\^", "|^~~&", "|^~\\~", "|^~\\\\", "\x00\x00\x00\x00\x00"} {
		if Right(signs(s)) {
			t.Errorf("%q may be", s)
		}
	}
}

// P6.1: which bytes may be signs, at each of the five places.
func TestRightBytes(t *testing.T) {
	for place := range 5 {
		for c := range 256 {
			s := []byte("!#$%*")
			taken := slices.Index(s, byte(c))
			s[place] = byte(c)
			letter := 'A' <= c && c <= 'Z' || 'a' <= c && c <= 'z' || '0' <= c && c <= '9'
			want := c >= 33 && c <= 126 && !letter && (taken < 0 || taken == place)
			if got := Right(signs(string(s))); got != want {
				t.Errorf("%q: %v", s, got)
			}
		}
	}
}

// P6.1: Plain, Write.
func TestWrite(t *testing.T) {
	if Plain() != signs("|^~\\&") {
		t.Errorf("plain: %v", Plain())
	}
	if s, e := Write(Plain()); s != "MSH|^~\\&" || e != api.OK {
		t.Errorf("%q %v", s, e)
	}
	if s, e := Write(signs("!#$%*")); s != "MSH!#$%*" || e != api.OK {
		t.Errorf("%q %v", s, e)
	}
	for _, s := range []string{"|^^\\&", "a^~\\&", "|^~\\ ", "\x00\x00\x00\x00\x00"} {
		if s, e := Write(signs(s)); s != "" || e != api.ErrHead {
			t.Errorf("%q %v", s, e)
		}
	}
}

// P6.1: Read.
func TestRead(t *testing.T) {
	for s, want := range map[string]api.Errno{
		"":                  api.ErrShort,
		"MSH|^~\\&":         api.ErrShort,
		"xxxxxxxx":          api.ErrShort,
		"MSH|^~\\&|":        api.OK,
		"MSH|^~\\&\r":       api.OK,
		"MSH|^~\\&|A|B":     api.OK,
		"MSH|^~\\&\rPID|a":  api.OK,
		"MSH|^~\\&^":        api.ErrHead,
		"MSH|^~\\&\n":       api.ErrHead,
		"MSH|^~\\&A":        api.ErrHead,
		"MSH|^^\\&|":        api.ErrHead,
		"MSH|^~\\a|":        api.ErrHead,
		"MSHa^~\\&a":        api.ErrHead,
		"msh|^~\\&|":        api.ErrHead,
		"MSA|^~\\&|":        api.ErrHead,
		"\rMSH|^~\\&|":      api.ErrHead,
		"MSH\r^~\\&\r":      api.ErrHead,
		"MSH|^~\\&\x1c\r":   api.ErrHead,
		"MSH|^~\\&\x00more": api.ErrHead,
	} {
		d, e := Read([]byte(s))
		wanted := api.Delims{}
		if want == api.OK {
			wanted = Plain()
		}
		if e != want || d != wanted {
			t.Errorf("%q: %v %v, not %v", s, d, e, want)
		}
	}
	if d, e := Read([]byte("MSH!#$%*!|")); d != signs("!#$%*") || e != api.OK {
		t.Errorf("%v %v", d, e)
	}
}

// P6.3: what tells signs is read as them.
func TestReadWritten(t *testing.T) {
	for _, s := range []string{"|^~\\&", "!\"#$%", "~}|{`", "*+,-."} {
		d := signs(s)
		told, _ := Write(d)
		for _, behind := range []byte{d.Field, 13} {
			if got, e := Read(append([]byte(told), behind)); got != d || e != api.OK {
				t.Errorf("%q, %d behind: %v %v", told, behind, got, e)
			}
		}
	}
}

// P6.2, P6.3: Cut and Join.
func TestCutJoin(t *testing.T) {
	for _, c := range []struct {
		s    string
		sign byte
		l    []string
	}{
		{"", '|', []string{""}},
		{"a", '|', []string{"a"}},
		{"|", '|', []string{"", ""}},
		{"a|b||c|", '|', []string{"a", "b", "", "c", ""}},
		{"|a", '|', []string{"", "a"}},
		{"a\x00b", 0, []string{"a", "b"}},
		{"a\xffb\xc3\xbf", 0xff, []string{"a", "b\xc3\xbf"}},
		{"\xc3\xa4\xc3", 0xc3, []string{"", "\xa4", ""}},
		{"\xc3\xa4", 0xe4, []string{"\xc3\xa4"}},
	} {
		l := Cut(c.s, c.sign)
		if !slices.Equal(l, c.l) {
			t.Errorf("Cut(%q, %d): %q", c.s, c.sign, l)
		}
		if s := Join(c.sign, l...); s != c.s {
			t.Errorf("Join of %q: %q", l, s)
		}
	}
	if s := Join('|'); s != "" {
		t.Errorf("of none: %q", s)
	}
	if s := Join('^', "a|b", "", "^"); s != "a|b^^^" {
		t.Errorf("%q", s)
	}
}
