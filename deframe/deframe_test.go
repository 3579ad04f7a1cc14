package deframe

import (
	"bytes"
	"math"
	"slices"
	"testing"

	"lamplighter/api"
	"lamplighter/frame"
)

func newDeframer(t *testing.T, most int) *Deframer {
	t.Helper()
	d, e := New(most)
	if e != api.OK || d == nil {
		t.Fatalf("New(%d): %v %v", most, d, e)
	}
	return d
}

// result is what a deframer tells of bytes.
type result struct {
	frames                   []string
	held, junk, over, broken int
}

func (r result) equal(s result) bool {
	return slices.Equal(r.frames, s.frames) && r.held == s.held && r.junk == s.junk && r.over == s.over && r.broken == s.broken
}

// fed is what a deframer tells of pieces.
func fed(t *testing.T, d *Deframer, pieces ...[]byte) result {
	t.Helper()
	var r result
	for _, p := range pieces {
		l, e := d.Feed(p...)
		if e != api.OK {
			t.Fatalf("Feed: %v", e)
		}
		for _, f := range l {
			r.frames = append(r.frames, string(f))
		}
	}
	r.held, r.junk, r.over, r.broken = d.Held(), d.Junk(), d.Over(), d.Broken()
	return r
}

// whole is what the chapter tells of bytes, by looking ahead.
func whole(b []byte, most int) result {
	var r result
	for i := 0; i < len(b); {
		if b[i] != 11 {
			r.junk++
			i++
			continue
		}
		i++
		frame, held, open := "", 1, true
		for open && i < len(b) && b[i] != 11 {
			if b[i] == 28 && i+1 == len(b) {
				held, i = len(frame)+2, i+1
				break
			}
			if b[i] == 28 && b[i+1] == 13 {
				r.frames, open, i = append(r.frames, frame), false, i+2
				break
			}
			if b[i] == 28 && b[i+1] == 11 {
				i++
				break
			}
			frame += string(b[i : i+1])
			held = len(frame) + 1
			i++
			if len(frame) > most {
				r.over, open = r.over+1, false
				if b[i-1] == 28 {
					i++
				}
			}
		}
		if open && i < len(b) {
			r.broken++
		} else if open {
			r.held = held
		}
	}
	return r
}

// short calls f with all texts of up to n bytes of those that play a part, and one more.
func short(n int, f func(b []byte)) {
	l := [][]byte{nil}
	for from := 0; n >= 0; n-- {
		to := len(l)
		for _, b := range l[from:to] {
			f(b)
			for _, c := range []byte{11, 28, 13, 65} {
				l = append(l, append(bytes.Clone(b), c))
			}
		}
		from = to
	}
}

// P5.1: how many bytes may be in a frame.
func TestNew(t *testing.T) {
	for _, most := range []int{0, -1, math.MinInt, api.MaxFrame + 1, math.MaxInt} {
		if d, e := New(most); d != nil || e != api.ErrRange {
			t.Errorf("New(%d): %v %v", most, d, e)
		}
	}
	for _, most := range []int{1, api.MaxFrame} {
		if r := fed(t, newDeframer(t, most)); !r.equal(result{}) {
			t.Errorf("New(%d): %v", most, r)
		}
	}
}

// P5.1, P5.2: bytes, and what is told of them.
func TestFeed(t *testing.T) {
	for _, s := range []struct {
		b    []byte
		want result
	}{
		{[]byte{65, 11, 66, 28, 13, 11, 67, 11, 68}, result{[]string{"B"}, 2, 1, 0, 1}},
		{[]byte{11, 28, 13}, result{frames: []string{""}}},
		{[]byte{11, 65, 28, 13, 11, 66, 28, 13}, result{frames: []string{"A", "B"}}},
		{[]byte{11, 65, 28, 13, 66, 11, 67, 28, 13, 13}, result{frames: []string{"A", "C"}, junk: 2}},
		{[]byte{11}, result{held: 1}},
		{[]byte{11, 28}, result{held: 2}},
		{[]byte{11, 28, 28}, result{held: 3}},
		{[]byte{11, 28, 65}, result{held: 3}},
		{[]byte{11, 28, 28, 13}, result{frames: []string{"\x1c"}}},
		{[]byte{11, 28, 28, 28, 28, 13}, result{frames: []string{"\x1c\x1c\x1c"}}},
		{[]byte{11, 65, 28, 66, 28, 13}, result{frames: []string{"A\x1cB"}}},
		{[]byte{11, 13, 28, 13}, result{frames: []string{"\r"}}},
		{[]byte{11, 65, 66, 67, 28, 13}, result{frames: []string{"ABC"}}},
		{[]byte{11, 65, 66, 67, 28}, result{held: 5}},
		{[]byte{11, 65, 66, 67, 68, 28, 13}, result{over: 1, junk: 2}},
		{[]byte{11, 65, 66, 67, 28, 68}, result{over: 1}},
		{[]byte{11, 65, 66, 67, 28, 28, 13}, result{over: 1, junk: 1}},
		{[]byte{11, 65, 66, 67, 28, 11}, result{broken: 1, held: 1}},
		{[]byte{11, 65, 66, 28, 67}, result{over: 1}},
		{[]byte{11, 65, 11, 66, 28, 11, 67, 28, 13}, result{frames: []string{"C"}, broken: 2}},
		{[]byte{28, 13, 65}, result{junk: 3}},
	} {
		if r := fed(t, newDeframer(t, 3), s.b); !r.equal(s.want) {
			t.Errorf("%v: %v, not %v", s.b, r, s.want)
		}
		if r := whole(s.b, 3); !r.equal(s.want) {
			t.Errorf("the test's own: %v: %v, not %v", s.b, r, s.want)
		}
	}
}

// P5.3: what is told hangs on the bytes alone, not on the pieces.
func TestPieces(t *testing.T) {
	for most := 1; most <= 3; most++ {
		short(7, func(b []byte) {
			want := whole(b, most)
			if r := fed(t, newDeframer(t, most), b); !r.equal(want) {
				t.Fatalf("most %d, %v: %v, not %v", most, b, r, want)
			}
			var single [][]byte
			for i := range b {
				single = append(single, b[i:i+1], nil)
			}
			if r := fed(t, newDeframer(t, most), single...); !r.equal(want) {
				t.Fatalf("most %d, %v byte by byte: %v, not %v", most, b, r, want)
			}
			if i := len(b) / 2; i > 0 {
				if r := fed(t, newDeframer(t, most), b[:i], b[i:]); !r.equal(want) {
					t.Fatalf("most %d, %v cut at %d: %v, not %v", most, b, i, r, want)
				}
			}
		})
	}
}

// P5.3: what may be in a frame, and how much is held.
func TestBounds(t *testing.T) {
	short(7, func(b []byte) {
		d := newDeframer(t, 2)
		for _, c := range b {
			l, _ := d.Feed(c)
			for _, f := range l {
				if bytes.IndexByte(f, 11) >= 0 || bytes.Contains(f, []byte{28, 13}) || len(f) > 2 {
					t.Fatalf("%v: frame of %v", b, f)
				}
			}
			if d.Held() > 4 {
				t.Fatalf("%v: %d held", b, d.Held())
			}
		}
	})
}

// P5.1: frames of the greatest size, and of one byte more.
func TestGreatest(t *testing.T) {
	for _, s := range []struct{ n, frames, over int }{{api.MaxFrame, 1, 0}, {api.MaxFrame + 1, 0, 1}} {
		b := append([]byte{11}, bytes.Repeat([]byte{65}, s.n)...)
		r := fed(t, newDeframer(t, api.MaxFrame), b, []byte{28, 13})
		if len(r.frames) != s.frames || r.over != s.over || r.junk != 2*s.over {
			t.Errorf("%d bytes: %d frames, %d over, %d junk", s.n, len(r.frames), r.over, r.junk)
		}
	}
}

// P5.1: what layer 4 wraps is told as it was.
func TestWrapped(t *testing.T) {
	short(5, func(b []byte) {
		f, e := frame.Wrap(b)
		if e != api.OK {
			return
		}
		if r := fed(t, newDeframer(t, 5), f, f); !r.equal(result{frames: []string{string(b), string(b)}}) {
			t.Fatalf("%v: %v", b, r)
		}
	})
}

// P5.2: Reset.
func TestReset(t *testing.T) {
	for _, b := range [][]byte{{11}, {11, 65}, {11, 65, 28}, {65}} {
		d := newDeframer(t, 3)
		fed(t, d, []byte{65, 11, 11, 65, 66, 67, 68})
		fed(t, d, b)
		junk := d.Junk()
		d.Reset()
		if r := fed(t, d); !r.equal(result{junk: junk, over: 1, broken: 1}) {
			t.Errorf("%v: %v", b, r)
		}
		if r := fed(t, d, []byte{13, 11, 66, 28, 13}); !r.equal(result{frames: []string{"B"}, junk: junk + 1, over: 1, broken: 1}) {
			t.Errorf("%v, and a frame: %v", b, r)
		}
	}
}

// The line on nil deframers.
func TestNil(t *testing.T) {
	var d *Deframer
	if l, e := d.Feed(11, 28, 13); len(l) != 0 || e != api.ErrNil {
		t.Errorf("Feed: %v %v", l, e)
	}
	d.Reset()
	if d.Held() != 0 || d.Junk() != 0 || d.Over() != 0 || d.Broken() != 0 {
		t.Error("a nil deframer has something")
	}
}

// Rule 4: what was handed in may be changed, and what was answered.
func TestListsStay(t *testing.T) {
	d := newDeframer(t, 9)
	piece := []byte{11, 65, 66}
	d.Feed(piece...)
	piece[1] = 0
	l, _ := d.Feed(28, 13, 11, 67, 28, 13)
	if len(l) != 2 || string(l[0]) != "AB" || string(l[1]) != "C" {
		t.Fatalf("%q", l)
	}
	_ = append(l[0], "xxxxxxxx"...)
	l[0][0] = 'y'
	k, _ := d.Feed(11, 68, 69, 28, 13)
	if string(l[1]) != "C" || len(k) != 1 || string(k[0]) != "DE" || string(l[0]) != "yB" {
		t.Errorf("%q, and %q", l, k)
	}
}

// Promise P2: two deframers have nothing to do with one another.
func TestApart(t *testing.T) {
	a, b := newDeframer(t, 3), newDeframer(t, 3)
	a.Feed(65, 11, 66)
	if r := fed(t, b, []byte{28, 13}); !r.equal(result{junk: 2}) {
		t.Errorf("%v", r)
	}
}
