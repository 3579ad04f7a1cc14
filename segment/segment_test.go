package segment

import (
	"math"
	"slices"
	"strings"
	"testing"

	"lamplighter/api"
)

var plain = api.Delims{Field: '|', Part: '^', Again: '~', Escape: '\\', Sub: '&'}

// P8.1: Split and Join.
func TestSplitJoin(t *testing.T) {
	for s, want := range map[string][]string{
		"":           nil,
		"\r":         {""},
		"\r\r":       {"", ""},
		"a":          {"a"},
		"a\r":        {"a"},
		"a\rb":       {"a", "b"},
		"a\r\rb\r":   {"a", "", "b"},
		"\ra\n":      {"", "a\n"},
		"a\x00\xff":  {"a\x00\xff"},
		"a\r\r":      {"a", ""},
		"\r\ra":      {"", "", "a"},
		"a|b\rc^d\r": {"a|b", "c^d"},
	} {
		if l := Split([]byte(s)); !slices.Equal(l, want) {
			t.Errorf("Split(%q): %q", s, l)
		}
	}
	for want, l := range map[string][]string{"": nil, "\r": {""}, "a\r\rb\r": {"a", "", "b"}, "a\rb\r": {"a\rb"}} {
		if b := Join(l...); string(b) != want {
			t.Errorf("Join(%q): %q", l, b)
		}
	}
}

// P8.4: segments without a 13 are joined and split as they were.
func TestSplitJoined(t *testing.T) {
	for _, l := range [][]string{nil, {""}, {"", ""}, {"a"}, {"a", ""}, {"", "a", "", "b|c"}} {
		if got := Split(Join(l...)); !slices.Equal(got, l) {
			t.Errorf("%q: %q", l, got)
		}
	}
}

// P8.1: Name.
func TestName(t *testing.T) {
	for s, want := range map[string]string{"": "", "P": "P", "PI": "PI", "PID": "PID", "PID|a": "PID", "MSHX": "MSH", "|a|b": "|a|", "\xff\x00\r\n": "\xff\x00\r"} {
		if got := Name(s); got != want {
			t.Errorf("Name(%q): %q", s, got)
		}
	}
}

// P8.2: the fields of a segment, and that there are no others.
func TestFields(t *testing.T) {
	odd := api.Delims{Field: 'S', Part: 'S', Again: 'S'}
	for _, c := range []struct {
		s    string
		d    api.Delims
		want []string
	}{
		{"", plain, nil},
		{"PID", plain, nil},
		{"P", plain, nil},
		{"PID|", plain, []string{""}},
		{"PID|a^b~c|d", plain, []string{"a^b~c", "d"}},
		{"PID||a|", plain, []string{"", "a", ""}},
		{"PIDX|a", plain, []string{"a"}},
		{"P|a", plain, []string{"a"}},
		{"|a|b", plain, []string{"a", "b"}},
		{"PID!a", plain, nil},
		{"MSH", plain, nil},
		{"MSH|", plain, []string{"|", ""}},
		{"MSH||", plain, []string{"|", "", ""}},
		{"MSH|^~\\&", plain, []string{"|", "^~\\&"}},
		{"MSH|^~\\&|", plain, []string{"|", "^~\\&", ""}},
		{"MSH|^~\\&|x", plain, []string{"|", "^~\\&", "x"}},
		{"MSH|^~\\&|A||B", plain, []string{"|", "^~\\&", "A", "", "B"}},
		{"MSH!^~\\&|A||B", plain, nil},
		{"MSHX|a", plain, nil},
		{"msh|a", plain, []string{"a"}},
		{"MSH\xffa\xffb", api.Delims{Field: 255}, []string{"\xff", "a", "b"}},
		{"MSHSaSb", odd, []string{"S", "a", "b"}},
		{"PSDSa", odd, []string{"D", "a"}},
		{"MSA\x00AA", api.Delims{}, []string{"AA"}},
	} {
		if n := Count(c.s, c.d); n != len(c.want) {
			t.Errorf("Count(%q): %d, not %d", c.s, n, len(c.want))
		}
		for i, want := range c.want {
			if got, ok := Field(c.s, i+1, c.d); got != want || !ok {
				t.Errorf("Field(%q, %d): %q %v", c.s, i+1, got, ok)
			}
		}
		for _, n := range []int{0, -1, math.MinInt, len(c.want) + 1, math.MaxInt, math.MaxInt - 1} {
			if got, ok := Field(c.s, n, c.d); got != "" || ok {
				t.Errorf("Field(%q, %d): %q %v", c.s, n, got, ok)
			}
		}
	}
}

// P8.2: Make.
func TestMake(t *testing.T) {
	for _, c := range []struct {
		name string
		l    []string
		want string
	}{
		{"PID", nil, "PID"},
		{"PID", []string{""}, "PID|"},
		{"PID", []string{"a", "", "b"}, "PID|a||b"},
		{"", []string{"a"}, "|a"},
		{"MSH", nil, "MSH"},
		{"MSH", []string{"|"}, "MSH|"},
		{"MSH", []string{"|", "^~\\&"}, "MSH|^~\\&"},
		{"MSH", []string{"|", "^~\\&", "A", "", "B"}, "MSH|^~\\&|A||B"},
		{"MSHX", []string{"a", "b"}, "MSHX|a|b"},
		{"msh", []string{"a"}, "msh|a"},
	} {
		if got := Make(plain, c.name, c.l...); got != c.want {
			t.Errorf("Make(%q, %q): %q", c.name, c.l, got)
		}
	}
	if got := Make(api.Delims{Field: 255}, "A", "b", "c"); got != "A\xffb\xffc" {
		t.Errorf("%q", got)
	}
}

// P8.3: repetitions and components, and that there are no others.
func TestParts(t *testing.T) {
	odd := api.Delims{Again: '~', Part: '~'}
	for _, c := range []struct {
		field string
		d     api.Delims
		want  [][]string
	}{
		{"", plain, [][]string{{""}}},
		{"a", plain, [][]string{{"a"}}},
		{"a^b~c", plain, [][]string{{"a", "b"}, {"c"}}},
		{"~", plain, [][]string{{""}, {""}}},
		{"^~^^", plain, [][]string{{"", ""}, {"", "", ""}}},
		{"a&b\\|c", plain, [][]string{{"a&b\\|c"}}},
		{"a~b", odd, [][]string{{"a"}, {"b"}}},
		{"a\x00b", api.Delims{Part: '^'}, [][]string{{"a"}, {"b"}}},
	} {
		if n := Agains(c.field, c.d); n != len(c.want) {
			t.Errorf("Agains(%q): %d", c.field, n)
		}
		for i, parts := range c.want {
			if n := Parts(c.field, i+1, c.d); n != len(parts) {
				t.Errorf("Parts(%q, %d): %d", c.field, i+1, n)
			}
			for j, want := range parts {
				if got, ok := Part(c.field, i+1, j+1, c.d); got != want || !ok {
					t.Errorf("Part(%q, %d, %d): %q %v", c.field, i+1, j+1, got, ok)
				}
			}
			for _, n := range []int{0, -1, math.MinInt, len(parts) + 1, math.MaxInt} {
				if got, ok := Part(c.field, i+1, n, c.d); got != "" || ok {
					t.Errorf("Part(%q, %d, %d): %q %v", c.field, i+1, n, got, ok)
				}
			}
		}
		for _, again := range []int{0, -1, math.MinInt, len(c.want) + 1, math.MaxInt} {
			if n := Parts(c.field, again, c.d); n != 0 {
				t.Errorf("Parts(%q, %d): %d", c.field, again, n)
			}
			if got, ok := Part(c.field, again, 1, c.d); got != "" || ok {
				t.Errorf("Part(%q, %d, 1): %q %v", c.field, again, got, ok)
			}
		}
	}
}

// The chapter's examples.
func TestExamples(t *testing.T) {
	f, _ := Field("PID|a^b~c|d", 1, plain)
	if got, ok := Part(f, 2, 1, plain); f != "a^b~c" || got != "c" || !ok {
		t.Errorf("%q, %q %v", f, got, ok)
	}
}

// P8.4: fields without signs are told by what was made of them.
func TestFieldsMade(t *testing.T) {
	for _, name := range []string{"PID", "MSA", "Z"} {
		for n := range 6 {
			l := strings.Split(strings.Repeat("x,,", n)+"last", ",")
			s := Make(plain, name, l...)
			if Count(s, plain) != len(l) {
				t.Errorf("%q: %d", s, Count(s, plain))
			}
			for i, want := range l {
				if got, ok := Field(s, i+1, plain); got != want || !ok {
					t.Errorf("%q, %d: %q %v", s, i+1, got, ok)
				}
			}
		}
	}
	l := []string{"|", "^~\\&", "a", "", "b"}
	s := Make(plain, "MSH", l...)
	for i, want := range l {
		if got, ok := Field(s, i+1, plain); got != want || !ok {
			t.Errorf("%q, %d: %q %v", s, i+1, got, ok)
		}
	}
}

// Rule 4: what is handed in may be changed behind.
func TestListsStay(t *testing.T) {
	b := []byte("a|b\rc")
	l := Split(b)
	b[0] = 'x'
	if l[0] != "a|b" {
		t.Errorf("%q", l)
	}
}
