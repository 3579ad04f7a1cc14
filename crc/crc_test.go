package crc

import (
	"bytes"
	"hash/crc32"
	"math/rand"
	"sync"
	"testing"
)

// examples are texts of many lengths, the empty one among them.
func examples() [][]byte {
	r := rand.New(rand.NewSource(1))
	l := [][]byte{nil, {}, {0}, {255}, []byte("123456789"), make([]byte, 300)}
	for n := range 60 {
		b := make([]byte, n)
		r.Read(b)
		l = append(l, b)
	}
	return l
}

// P1.1: the sum.
func TestSum(t *testing.T) {
	if got := Sum([]byte("123456789")); got != 3421780262 {
		t.Errorf("sum of 123456789: %d", got)
	}
	if got := Sum(nil); got != 0 {
		t.Errorf("sum of none: %d", got)
	}
	for _, b := range examples() {
		if got, want := Sum(b), crc32.ChecksumIEEE(b); got != want {
			t.Errorf("%x: %d, not %d", b, got, want)
		}
	}
}

// P1.1: the sum of bytes and of others behind; also behind a sum that is any number.
func TestUpdate(t *testing.T) {
	for _, b := range examples() {
		for i := range len(b) + 1 {
			if got := Update(Sum(b[:i]), b[i:]); got != Sum(b) {
				t.Errorf("%x cut at %d: %d", b, i, got)
			}
		}
		for _, sum := range []uint32{0, 1, 0x80000000, 0xffffffff} {
			if got, want := Update(sum, b), crc32.Update(sum, crc32.IEEETable, b); got != want {
				t.Errorf("%d, %x: %d, not %d", sum, b, got, want)
			}
		}
	}
}

// P1.1: the table.
func TestTable(t *testing.T) {
	for i := range 256 {
		if got, want := Table(uint8(i)), crc32.IEEETable[i]; got != want {
			t.Errorf("row %d: %d, not %d", i, got, want)
		}
	}
}

// P1.1: whichever call is the first one, the table is there.
func TestFirstCall(t *testing.T) {
	for name, call := range map[string]func() uint32{
		"Sum":    func() uint32 { return Sum([]byte("123456789")) },
		"Update": func() uint32 { return Update(Sum([]byte("1")), []byte("23456789")) },
		"Table":  func() uint32 { return Table(1) - 0x77073096 + 3421780262 },
		"Seal": func() uint32 {
			s := Seal([]byte("123456789"))
			return uint32(s[9])<<24 | uint32(s[10])<<16 | uint32(s[11])<<8 | uint32(s[12])
		},
	} {
		once, table = sync.Once{}, [256]uint32{}
		if got := call(); got != 3421780262 {
			t.Errorf("%s: %d", name, got)
		}
	}
}

// P1.1, and rule 6: the table is there for many goroutines at a time.
func TestManyGoroutines(t *testing.T) {
	var group sync.WaitGroup
	sums := make([]uint32, 16)
	for i := range sums {
		group.Add(1)
		go func() {
			defer group.Done()
			sums[i] = Sum([]byte("123456789"))
		}()
	}
	group.Wait()
	for i, sum := range sums {
		if sum != 3421780262 {
			t.Errorf("goroutine %d: %d", i, sum)
		}
	}
}

// P1.2, P1.3: what is sealed has its sum behind, and is opened.
func TestSealOpen(t *testing.T) {
	for _, b := range examples() {
		sum := crc32.ChecksumIEEE(b)
		want := append(bytes.Clone(b), byte(sum>>24), byte(sum>>16), byte(sum>>8), byte(sum))
		sealed := Seal(b)
		if !bytes.Equal(sealed, want) {
			t.Errorf("%x sealed: %x", b, sealed)
		}
		if got, ok := Open(sealed); !ok || !bytes.Equal(got, b) {
			t.Errorf("%x opened: %x %v", sealed, got, ok)
		}
	}
}

// P1.2: too few bytes, or a wrong sum.
func TestOpenWrong(t *testing.T) {
	sealed := Seal([]byte("ab"))
	wrong := [][]byte{nil, {}, {0}, {0, 0, 0}, {0, 0, 0, 1}, sealed[:5], sealed[1:], append(bytes.Clone(sealed), 0)}
	sum := Sum([]byte("ab"))
	wrong = append(wrong, []byte{'a', 'b', byte(sum), byte(sum >> 8), byte(sum >> 16), byte(sum >> 24)})
	for _, b := range wrong {
		if got, ok := Open(b); ok || len(got) != 0 {
			t.Errorf("%x opened: %x %v", b, got, ok)
		}
	}
	if got, ok := Open([]byte{0, 0, 0, 0}); !ok || len(got) != 0 {
		t.Errorf("no bytes, with their sum: %x %v", got, ok)
	}
}

// P1.3: with one bit turned it isn't opened.
func TestOneBitTurned(t *testing.T) {
	for _, b := range examples() {
		sealed := Seal(b)
		for i := range 8 * len(sealed) {
			sealed[i/8] ^= 1 << (i % 8)
			if got, ok := Open(sealed); ok || len(got) != 0 {
				t.Errorf("%x, bit %d turned: %x %v", b, i, got, ok)
			}
			sealed[i/8] ^= 1 << (i % 8)
		}
	}
}

// Rule 4: what is handed in isn't changed, nor what is behind it, nor shared.
func TestListsStay(t *testing.T) {
	memory := []byte("abcdefgh")
	Seal(memory[:3])
	if string(memory) != "abcdefgh" {
		t.Errorf("memory after Seal: %s", memory)
	}
	sealed := Seal(memory[:3])
	opened, _ := Open(sealed)
	opened[0] = 'x'
	_ = append(opened, 'y', 'y', 'y', 'y')
	if got, ok := Open(sealed); !ok || string(got) != "abc" {
		t.Errorf("sealed bytes were changed: %x", sealed)
	}
}
