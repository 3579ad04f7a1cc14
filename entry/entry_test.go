package entry

import (
	"bytes"
	"hash/crc32"
	"math"
	"testing"

	"lamplighter/api"
)

// record is one as the chapter tells it.
func record(b []byte) []byte {
	n := len(b)
	r := []byte{byte(n >> 24), byte(n >> 16), byte(n >> 8), byte(n)}
	sum := crc32.ChecksumIEEE(append(bytes.Clone(r), b...))
	r = append(r, byte(sum>>24), byte(sum>>16), byte(sum>>8), byte(sum))
	return append(r, b...)
}

func examples() [][]byte {
	return [][]byte{{65}, {0}, []byte("abc"), bytes.Repeat([]byte{7}, 255), bytes.Repeat([]byte{0}, 256), bytes.Repeat([]byte("xyz"), 300), bytes.Repeat([]byte{255}, api.MaxFrame-1), bytes.Repeat([]byte{1}, api.MaxFrame)}
}

// P13.1: Put.
func TestPut(t *testing.T) {
	for _, b := range examples() {
		if r, e := Put(b); !bytes.Equal(r, record(b)) || e != api.OK || len(r) != Size(len(b)) {
			t.Errorf("%d bytes: %d bytes, %v", len(b), len(r), e)
		}
	}
	if r, _ := Put([]byte{65}); len(r) != 9 || !bytes.Equal(r[:4], []byte{0, 0, 0, 1}) || r[8] != 65 {
		t.Errorf("of 65: %v", r)
	}
	for _, b := range [][]byte{nil, {}, make([]byte, api.MaxFrame+1), make([]byte, 3*api.MaxFrame)} {
		if r, e := Put(b); len(r) != 0 || e != api.ErrLong {
			t.Errorf("%d bytes: %d bytes, %v", len(b), len(r), e)
		}
	}
}

// P13.1: Size.
func TestSize(t *testing.T) {
	for n, want := range map[int]int{1: 9, 2: 10, api.MaxFrame: api.MaxFrame + 8, 0: 0, -1: 0, -8: 0, api.MaxFrame + 1: 0, math.MaxInt: 0, math.MinInt: 0} {
		if got := Size(n); got != want {
			t.Errorf("Size(%d): %d", n, got)
		}
	}
}

// P13.2, P13.4: what is put is got, whatever stands behind.
func TestGet(t *testing.T) {
	for _, b := range examples() {
		for _, behind := range [][]byte{nil, {0}, record([]byte("x")), bytes.Repeat([]byte{255}, 9)} {
			got, n, e := Get(append(record(b), behind...))
			if !bytes.Equal(got, b) || n != len(b)+8 || e != api.OK {
				t.Errorf("%d bytes: %d bytes, %d, %v", len(b), len(got), n, e)
			}
		}
	}
}

// P13.2: errors, and their order.
func TestGetWrong(t *testing.T) {
	r := record([]byte("abc"))
	wrongSum := bytes.Clone(r)
	wrongSum[7]++
	for _, c := range []struct {
		b []byte
		e api.Errno
	}{
		{nil, api.ErrShort},
		{make([]byte, 7), api.ErrShort},
		{bytes.Repeat([]byte{255}, 7), api.ErrShort},
		{make([]byte, 8), api.ErrLong},
		{append([]byte{0, 1, 0, 1}, make([]byte, 4)...), api.ErrLong},
		{append([]byte{0, 1, 0, 1}, make([]byte, 70000)...), api.ErrLong},
		{append([]byte{255, 255, 255, 255}, make([]byte, 9)...), api.ErrLong},
		{append([]byte{128, 0, 0, 1}, make([]byte, 9)...), api.ErrLong},
		{append([]byte{1, 0, 0, 0}, make([]byte, 9)...), api.ErrLong},
		{append([]byte{0, 1, 0, 0}, make([]byte, 4)...), api.ErrShort},
		{append([]byte{0, 1, 0, 0}, make([]byte, 70000)...), api.ErrSum},
		{r[:8], api.ErrShort},
		{r[:10], api.ErrShort},
		{wrongSum, api.ErrSum},
		{wrongSum[:10], api.ErrShort},
		{r[1:], api.ErrShort},
	} {
		if b, n, e := Get(c.b); len(b) != 0 || n != 0 || e != c.e {
			t.Errorf("%d bytes: %v %d %v, not %v", len(c.b), b, n, e, c.e)
		}
	}
}

// P13.3, P13.4: of records behind each other, cut anywhere, the whole ones are scanned.
func TestScan(t *testing.T) {
	l := [][]byte{[]byte("a"), []byte("bcd"), {0}, []byte("efghijk")}
	var b []byte
	ends := []int{0}
	for _, x := range l {
		b = append(b, record(x)...)
		ends = append(ends, len(b))
	}
	for i := range len(b) + 1 {
		whole := 0
		for ends[whole] < i && whole+1 < len(ends) && ends[whole+1] <= i {
			whole++
		}
		want := api.ErrShort
		if ends[whole] == i {
			want = api.OK
		}
		got, place, e := Scan(b[:i])
		if len(got) != whole || place != ends[whole] || e != want {
			t.Errorf("cut at %d: %d records, %d, %v", i, len(got), place, e)
		}
		for k, x := range got {
			if !bytes.Equal(x, l[k]) {
				t.Errorf("cut at %d: record %d is %q", i, k, x)
			}
		}
	}
}

// P13.3: what isn't a record ends the row, and what is behind it isn't looked at.
func TestScanWrong(t *testing.T) {
	a, b := record([]byte("a")), record([]byte("b"))
	broken := bytes.Clone(a)
	broken[8] = 'x'
	for _, c := range []struct {
		b        []byte
		n, place int
		e        api.Errno
	}{
		{nil, 0, 0, api.OK},
		{[]byte{0}, 0, 0, api.ErrShort},
		{append(bytes.Clone(broken), b...), 0, 0, api.ErrSum},
		{append(append(bytes.Clone(b), broken...), b...), 1, 9, api.ErrSum},
		{append(bytes.Clone(a), make([]byte, 8)...), 1, 9, api.ErrLong},
		{append(bytes.Clone(a), make([]byte, 7)...), 1, 9, api.ErrShort},
	} {
		if l, place, e := Scan(c.b); len(l) != c.n || place != c.place || e != c.e {
			t.Errorf("%v: %d records, %d, %v", c.b, len(l), place, e)
		}
	}
}

// P13.4: with one bit turned in its sum, or its bytes, it isn't got; nor with one turned in its length, as long as nothing is behind.
func TestOneBitTurned(t *testing.T) {
	for _, b := range examples()[:6] {
		r := record(b)
		for i := range 8 * len(r) {
			r[i/8] ^= 1 << (i % 8)
			if got, n, e := Get(r); e == api.OK || len(got) != 0 || n != 0 {
				t.Errorf("%d bytes, bit %d turned: %d bytes, %d, %v", len(b), i, len(got), n, e)
			} else if i >= 32 && e != api.ErrSum {
				t.Errorf("%d bytes, bit %d turned: %v", len(b), i, e)
			}
			r[i/8] ^= 1 << (i % 8)
		}
	}
}

// Rule 4: nothing is shared.
func TestListsStay(t *testing.T) {
	memory := []byte("abcdef")
	r, _ := Put(memory[:3])
	b := append(bytes.Clone(r), r...)
	l, _, _ := Scan(b)
	got, _, _ := Get(b)
	b[8], memory[0], r[8] = 'x', 'y', 'z'
	_ = append(l[0], "wwwwwwwwwwwwwwwwwwww"...)
	if string(l[0]) != "abc" || string(l[1]) != "abc" || string(got) != "abc" || string(memory) != "ybcdef" {
		t.Errorf("%q, %q, %q", l, got, memory)
	}
}
