package crc

import (
	"bytes"
	"hash/crc32"
	"math/rand"
	"sync"
	"testing"
)

// examples are texts of many lengths, the empty one among them.
func examples() [][]byte {
	r := rand.New(rand.NewSource(1))
	l := [][]byte{nil, {}, {0}, {255}, []byte("123456789"), make([]byte, 300)}
	for n := range 60 {
		b := make([]byte, n)
		r.Read(b)
		l = append(l, b)
	}
	return l
}

// P1.1: the sum.
func TestSum(t *testing.T) {
	if got := Sum([]byte("123456789")); got != 3421780262 {
		t.Errorf("sum of 123456789: %d", got)
	}
	if got := Sum(nil); got != 0 {
		t.Errorf("sum of none: %d", got)
	}
	for _, b := range examples() {
		if got, want := Sum(b), crc32.ChecksumIEEE(b); got != want {
			t.Errorf("%x: %d, not %d", b, got, want)
		}
	}
}

// P1.1: the sum of bytes and of others behind; also behind a sum that is any number.
func TestUpdate(t *testing.T) {
	for _, b := range examples() {
		for i := range len(b) + 1 {
			if got := Update(Sum(b[:i]), b[i:]); got != Sum(b) {
				t.Errorf("%x cut at %d: %d", b, i, got)
			}
		}
		for _, sum := range []uint32{0, 1, 0x80000000, 0xffffffff} {
			if got, want := Update(sum, b), crc32.Update(sum, crc32.IEEETable, b); got != want {
				t.Errorf("%d, %x: %d, not %d", sum, b, got, want)
			}
		}
	}
}

// P1.1: the table.
func TestTable(t *testing.T) {
	for i := range 256 {
		if got, want := Table(uint8(i)), crc32.IEEETable[i]; got != want {
			t.Errorf("row %d: %d, not %d", i, got, want)
		}
	}
}

// layTable puts rows where the table is, as not made yet or as made; the table is as at the beginning when the test ends.
func layTable(t *testing.T, rows [256]uint32, made bool) {
	once, table = sync.Once{}, rows
	if made {
		once.Do(func() {})
	}
	t.Cleanup(func() { once, table = sync.Once{}, [256]uint32{} })
}

// P1.1: whichever row is asked for first, the table is there.
func TestFirstRow(t *testing.T) {
	for _, i := range []uint8{0, 1, 128, 255} {
		layTable(t, [256]uint32{}, false)
		if got, want := Table(i), crc32.IEEETable[i]; got != want {
			t.Errorf("row %d: %d, not %d", i, got, want)
		}
	}
}

// The table is made once, and Table tells what stands in it.
func TestTableReadsArray(t *testing.T) {
	layTable(t, [256]uint32{0: 1, 7: 77, 255: 5}, true)
	for i, want := range map[uint8]uint32{0: 1, 7: 77, 8: 0, 255: 5} {
		if got := Table(i); got != want {
			t.Errorf("row %d: %d, not %d", i, got, want)
		}
	}
}

// P1.1 to P1.3: no call but Table reads the table, nor has it made: sums are right whatever stands there.
func TestSumsWithoutTable(t *testing.T) {
	for _, made := range []bool{false, true} {
		rows := [256]uint32{3: 3}
		layTable(t, rows, made)
		for _, b := range examples() {
			sum := crc32.ChecksumIEEE(b)
			if got := Sum(b); got != sum {
				t.Errorf("sum of %x: %d, not %d", b, got, sum)
			}
			if got := Update(Sum(b[:len(b)/2]), b[len(b)/2:]); got != sum {
				t.Errorf("sum of %x, cut: %d, not %d", b, got, sum)
			}
			sealed := append(bytes.Clone(b), byte(sum>>24), byte(sum>>16), byte(sum>>8), byte(sum))
			if got := Seal(b); !bytes.Equal(got, sealed) {
				t.Errorf("%x sealed: %x", b, got)
			}
			if got, ok := Open(sealed); !ok || !bytes.Equal(got, b) {
				t.Errorf("%x opened: %x %v", sealed, got, ok)
			}
		}
		if table != rows {
			t.Error("the table was made")
		}
	}
}

// P1.1, and rule 6: sums and the table are there for many goroutines at a time.
func TestManyGoroutines(t *testing.T) {
	layTable(t, [256]uint32{}, false)
	var group sync.WaitGroup
	var sums, rows [16]uint32
	for i := range sums {
		group.Add(1)
		go func() {
			defer group.Done()
			sums[i] = Sum([]byte("123456789"))
			rows[i] = Table(255)
		}()
	}
	group.Wait()
	for i := range sums {
		if sums[i] != 3421780262 || rows[i] != crc32.IEEETable[255] {
			t.Errorf("goroutine %d: %d, %d", i, sums[i], rows[i])
		}
	}
}

// P1.2, P1.3: what is sealed has its sum behind, and is opened.
func TestSealOpen(t *testing.T) {
	for _, b := range examples() {
		sum := crc32.ChecksumIEEE(b)
		want := append(bytes.Clone(b), byte(sum>>24), byte(sum>>16), byte(sum>>8), byte(sum))
		sealed := Seal(b)
		if !bytes.Equal(sealed, want) {
			t.Errorf("%x sealed: %x", b, sealed)
		}
		if got, ok := Open(sealed); !ok || !bytes.Equal(got, b) {
			t.Errorf("%x opened: %x %v", sealed, got, ok)
		}
	}
}

// P1.2: too few bytes, or a wrong sum.
func TestOpenWrong(t *testing.T) {
	sealed := Seal([]byte("ab"))
	wrong := [][]byte{nil, {}, {0}, {0, 0, 0}, {0, 0, 0, 1}, sealed[:5], sealed[1:], append(bytes.Clone(sealed), 0)}
	sum := Sum([]byte("ab"))
	wrong = append(wrong, []byte{'a', 'b', byte(sum), byte(sum >> 8), byte(sum >> 16), byte(sum >> 24)})
	for _, b := range wrong {
		if got, ok := Open(b); ok || len(got) != 0 {
			t.Errorf("%x opened: %x %v", b, got, ok)
		}
	}
	if got, ok := Open([]byte{0, 0, 0, 0}); !ok || len(got) != 0 {
		t.Errorf("no bytes, with their sum: %x %v", got, ok)
	}
}

// P1.3: with one bit turned it isn't opened.
func TestOneBitTurned(t *testing.T) {
	for _, b := range examples() {
		sealed := Seal(b)
		for i := range 8 * len(sealed) {
			sealed[i/8] ^= 1 << (i % 8)
			if got, ok := Open(sealed); ok || len(got) != 0 {
				t.Errorf("%x, bit %d turned: %x %v", b, i, got, ok)
			}
			sealed[i/8] ^= 1 << (i % 8)
		}
	}
}

// Rule 4: what is handed in isn't changed, nor what is behind it, nor shared.
func TestListsStay(t *testing.T) {
	memory := []byte("abcdefgh")
	Seal(memory[:3])
	if string(memory) != "abcdefgh" {
		t.Errorf("memory after Seal: %s", memory)
	}
	sealed := Seal(memory[:3])
	opened, _ := Open(sealed)
	opened[0] = 'x'
	_ = append(opened, 'y', 'y', 'y', 'y')
	if got, ok := Open(sealed); !ok || string(got) != "abc" {
		t.Errorf("sealed bytes were changed: %x", sealed)
	}
}
