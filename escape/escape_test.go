package escape

import (
	"strings"
	"testing"

	"lamplighter/api"
	"lamplighter/delim"
)

var (
	plain = api.Delims{Field: '|', Part: '^', Again: '~', Escape: '\\', Sub: '&'}
	other = api.Delims{Field: '!', Part: '#', Again: '$', Escape: '%', Sub: '*'}
	wrong = api.Delims{Field: '|', Part: '|', Again: '~', Escape: '\\', Sub: '&'}
)

// P7.1: Encode.
func TestEncode(t *testing.T) {
	for _, c := range []struct {
		s    string
		d    api.Delims
		want string
	}{
		{"", plain, ""},
		{"a|b\\c", plain, `a\F\b\E\c`},
		{"|^&~\\", plain, `\F\\S\\T\\R\\E\`},
		{"\x0b\x0d\x1c\n\x00", plain, "\\X0B\\\\X0D\\\\X1C\\\n\x00"},
		{"!#*$%", other, "%F%%S%%T%%R%%E%"},
		{"|^~\\&", other, "|^~\\&"},
		{"FSTREX0D \xff\xc3\xa4", plain, "FSTREX0D \xff\xc3\xa4"},
	} {
		if got, e := Encode(c.s, c.d); got != c.want || e != api.OK {
			t.Errorf("%q: %q %v", c.s, got, e)
		}
	}
	for _, d := range []api.Delims{wrong, {}, {Field: '|', Part: '^', Again: '~', Escape: 'E', Sub: '&'}} {
		if got, e := Encode("a|b", d); got != "" || e != api.ErrHead {
			t.Errorf("signs %v: %q %v", d, got, e)
		}
	}
}

// P7.2: Decode.
func TestDecode(t *testing.T) {
	for _, c := range []struct {
		s     string
		d     api.Delims
		want  string
		place int
		e     api.Errno
	}{
		{"", plain, "", 0, api.OK},
		{"abc", plain, "abc", 3, api.OK},
		{`a\F\b\E\c`, plain, `a|b\c`, 9, api.OK},
		{`\F\\S\\T\\R\\E\`, plain, `|^&~\`, 15, api.OK},
		{`\X0D0A\`, plain, "\r\n", 7, api.OK},
		{`\X00FF\x\XA0\`, plain, "\x00\xffx\xa0", 13, api.OK},
		{"a|b^c~d&e\r", plain, "a|b^c~d&e\r", 10, api.OK},
		{`%F%\Q\`, other, `!\Q\`, 6, api.OK},
		{`a\Q\`, plain, "", 1, api.ErrForm},
		{`\`, plain, "", 0, api.ErrForm},
		{`\F`, plain, "", 0, api.ErrForm},
		{`\\`, plain, "", 0, api.ErrForm},
		{`\\F\`, plain, "", 0, api.ErrForm},
		{`\F\F\`, plain, "", 4, api.ErrForm},
		{`\FF\`, plain, "", 0, api.ErrForm},
		{`\f\`, plain, "", 0, api.ErrForm},
		{`\X\`, plain, "", 0, api.ErrForm},
		{`\X0\`, plain, "", 0, api.ErrForm},
		{`\X0D0\`, plain, "", 0, api.ErrForm},
		{`\X0d\`, plain, "", 0, api.ErrForm},
		{`\X0G\`, plain, "", 0, api.ErrForm},
		{`\XG0\`, plain, "", 0, api.ErrForm},
		{`\x0D\`, plain, "", 0, api.ErrForm},
		{`\X0D`, plain, "", 0, api.ErrForm},
		{`\X 0D\`, plain, "", 0, api.ErrForm},
		{`\E\\E\\`, plain, "", 6, api.ErrForm},
		{`ab\E\Q\`, plain, "", 6, api.ErrForm},
		{`\H\`, plain, "", 0, api.ErrForm},
		{`\.br\`, plain, "", 0, api.ErrForm},
		{`\F0D\`, plain, "", 0, api.ErrForm},
		{`abc`, wrong, "", 0, api.ErrHead},
		{`a\Q\`, api.Delims{}, "", 0, api.ErrHead},
	} {
		if got, place, e := Decode(c.s, c.d); got != c.want || place != c.place || e != c.e {
			t.Errorf("%q: %q %d %v, not %q %d %v", c.s, got, place, e, c.want, c.place, c.e)
		}
	}
}

// P7.2: an escape X of each byte.
func TestDecodeBytes(t *testing.T) {
	for c := range 256 {
		const upper = "0123456789ABCDEF"
		s := `\X` + upper[c/16:c/16+1] + upper[c%16:c%16+1] + `\`
		if got, place, e := Decode(s, plain); got != string([]byte{byte(c)}) || place != 5 || e != api.OK {
			t.Errorf("%s: %q %d %v", s, got, place, e)
		}
		letter := string([]byte{'\\', byte(c), '\\'})
		_, _, e := Decode(letter, plain)
		if known := strings.IndexByte("FSTRE", byte(c)) >= 0; (e == api.OK) != known {
			t.Errorf("%q: %v", letter, e)
		}
	}
}

// P7.1: Clean, whatever the signs are.
func TestClean(t *testing.T) {
	for _, d := range []api.Delims{plain, other, wrong, {}, {Field: 'a', Part: 200, Again: 200, Escape: 0, Sub: 255}} {
		for c := range 256 {
			want := true
			for _, x := range []byte{d.Field, d.Part, d.Again, d.Escape, d.Sub, 11, 13, 28} {
				want = want && x != byte(c)
			}
			if got := Clean("."+string([]byte{byte(c)}), d); got != (want && Clean(".", d)) {
				t.Errorf("%d, signs %v: %v", c, d, got)
			}
		}
		if !Clean("", d) {
			t.Errorf("an empty text isn't clean of %v", d)
		}
	}
}

// P7.3: what is encoded tells what it was, and has none of what may not be.
func TestBothWays(t *testing.T) {
	letters := "|^~\\&aFX0\r\x0b\x1c!%\xff"
	var texts []string
	for i := range len(letters) {
		for j := range len(letters) {
			for k := range len(letters) {
				texts = append(texts, string([]byte{letters[i], letters[j], letters[k]}), string([]byte{letters[i], letters[j]}))
			}
		}
	}
	for _, d := range []api.Delims{plain, other} {
		others, _ := delim.Write(d)
		for _, s := range texts {
			enc, e := Encode(s, d)
			if e != api.OK {
				t.Fatalf("%q: %v", s, e)
			}
			for i := range len(enc) {
				c := enc[i]
				if c == 11 || c == 13 || c == 28 || c != d.Escape && strings.IndexByte(others[3:], c) >= 0 {
					t.Fatalf("%q encoded: %q", s, enc)
				}
			}
			if got, place, e := Decode(enc, d); got != s || place != len(enc) || e != api.OK {
				t.Fatalf("%q encoded and decoded: %q %d %v", s, got, place, e)
			}
			if Clean(s, d) {
				if got, _, e := Decode(s, d); enc != s || got != s || e != api.OK {
					t.Fatalf("%q is clean: %q %q %v", s, enc, got, e)
				}
			}
		}
	}
}
