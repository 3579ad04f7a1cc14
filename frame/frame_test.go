package frame

import (
	"bytes"
	"math"
	"testing"

	"lamplighter/api"
)

// short are all texts of up to n bytes of those that play a part, and one more.
func short(n int) [][]byte {
	l := [][]byte{nil}
	for from, k := 0, 0; k < n; k++ {
		to := len(l)
		for _, b := range l[from:to] {
			for _, c := range []byte{11, 28, 13, 65} {
				l = append(l, append(bytes.Clone(b), c))
			}
		}
		from = to
	}
	return l
}

// good is as the chapter says it, by pairs.
func good(b []byte) bool {
	return !bytes.Contains(b, []byte{11}) && !bytes.Contains(b, []byte{28, 13}) && !bytes.HasSuffix(b, []byte{28})
}

// P4.1: what may be in a frame.
func TestGood(t *testing.T) {
	for _, b := range short(6) {
		if Good(b) != good(b) {
			t.Errorf("%v: %v", b, Good(b))
		}
	}
	for _, b := range [][]byte{{28, 13}, {28}, {11}, {65, 28}, {65, 11, 65}} {
		if Good(b) {
			t.Errorf("%v may be", b)
		}
	}
	for _, b := range [][]byte{nil, {}, {28, 65}, {13}, {28, 28, 65}, {13, 28, 10}} {
		if !Good(b) {
			t.Errorf("%v may not be", b)
		}
	}
	for c := range 256 {
		if b := []byte{65, byte(c), 65}; Good(b) != (c != 11) {
			t.Errorf("%v: %v", b, Good(b))
		}
	}
}

// P4.1: Wrap.
func TestWrap(t *testing.T) {
	if f, e := Wrap([]byte{65, 66}); e != api.OK || !bytes.Equal(f, []byte{11, 65, 66, 28, 13}) {
		t.Errorf("%v %v", f, e)
	}
	if f, e := Wrap(nil); e != api.OK || !bytes.Equal(f, []byte{11, 28, 13}) {
		t.Errorf("none: %v %v", f, e)
	}
	for _, b := range short(5) {
		f, e := Wrap(b)
		if !good(b) {
			if e != api.ErrForm || len(f) != 0 {
				t.Errorf("%v: %v %v", b, f, e)
			}
			continue
		}
		want := append(append([]byte{11}, b...), 28, 13)
		if e != api.OK || !bytes.Equal(f, want) || len(f) != Count(len(b)) {
			t.Errorf("%v: %v %v", b, f, e)
		}
	}
}

// P4.1: Count.
func TestCount(t *testing.T) {
	for n, want := range map[int]int{0: 3, 1: 4, 65536: 65539, -1: 0, -3: 0, math.MinInt: 0, math.MaxInt - 3: math.MaxInt} {
		if got := Count(n); got != want {
			t.Errorf("Count(%d): %d", n, got)
		}
	}
}

// P4.2: Unwrap, and its errors.
func TestUnwrap(t *testing.T) {
	for _, s := range []struct {
		b    []byte
		want string
		e    api.Errno
	}{
		{nil, "", api.ErrShort},
		{[]byte{11}, "", api.ErrShort},
		{[]byte{28, 13}, "", api.ErrShort},
		{[]byte{65, 65}, "", api.ErrShort},
		{[]byte{11, 28, 13}, "", api.OK},
		{[]byte{65, 28, 13}, "", api.ErrForm},
		{[]byte{11, 65, 13}, "", api.ErrForm},
		{[]byte{11, 28, 65}, "", api.ErrForm},
		{[]byte{11, 65, 28, 13}, "A", api.OK},
		{[]byte{11, 11, 28, 13}, "", api.ErrForm},
		{[]byte{11, 28, 28, 13}, "", api.ErrForm},
		{[]byte{11, 28, 13, 28, 13}, "", api.ErrForm},
		{[]byte{11, 28, 65, 28, 13}, "\x1cA", api.OK},
		{[]byte{11, 13, 28, 13}, "\r", api.OK},
		{[]byte{11, 65, 28, 13, 65}, "", api.ErrForm},
	} {
		if b, e := Unwrap(s.b); string(b) != s.want || e != s.e {
			t.Errorf("%v: %q %v, not %q %v", s.b, b, e, s.want, s.e)
		}
	}
}

// P4.3: what is wrapped is unwrapped, and the other way about.
func TestBothWays(t *testing.T) {
	for _, b := range short(6) {
		if f, e := Wrap(b); e == api.OK {
			if got, e := Unwrap(f); e != api.OK || !bytes.Equal(got, b) {
				t.Errorf("%v wrapped and unwrapped: %v %v", b, got, e)
			}
		}
		if in, e := Unwrap(b); e == api.OK {
			if got, e := Wrap(in); e != api.OK || !bytes.Equal(got, b) {
				t.Errorf("%v unwrapped and wrapped: %v %v", b, got, e)
			}
		} else if len(in) != 0 {
			t.Errorf("%v: %v beside an error", b, in)
		}
	}
}

// Rule 4: nothing is shared, and nothing that is handed in is changed.
func TestListsStay(t *testing.T) {
	memory := []byte("abcdef")
	f, _ := Wrap(memory[:3])
	if string(memory) != "abcdef" {
		t.Errorf("memory: %s", memory)
	}
	in, _ := Unwrap(f)
	in[0] = 'x'
	_ = append(in, "yyyy"...)
	if string(f) != "\x0babc\x1c\x0d" {
		t.Errorf("frame: %q", f)
	}
	f[1] = 'z'
	if string(memory) != "abcdef" {
		t.Errorf("memory: %s", memory)
	}
}
