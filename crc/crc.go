// Package crc is layer 1: sums of bytes (CRC-32, as IEEE 802.3 has it).
package crc

import (
	"bytes"
	"sync"
)

// polynomial is that of IEEE 802.3, its bits the other way about.
const polynomial uint32 = 3988292384

// sumSize is how many bytes a sum has.
const sumSize = 4

// The table is read by Table alone: sums take their rows from row itself, so that no sum hangs on what is assigned while the program runs.
var (
	once  sync.Once
	table [256]uint32
)

// fill makes the table; it is called by the once alone, so that many goroutines may ask for rows.
func fill() {
	for i := range table {
		table[i] = row(uint8(i))
	}
}

// row is a row of the table, worked out anew.
func row(i uint8) uint32 {
	x := uint32(i)
	for range 8 {
		if x%2 == 1 {
			x = polynomial ^ x/2
		} else {
			x /= 2
		}
	}
	return x
}

// Sum is the sum of b.
func Sum(b []byte) uint32 { return Update(0, b) }

// Update is the sum of some bytes, of which sum is the sum, and of b behind them.
func Update(sum uint32, b []byte) uint32 {
	x := ^sum
	for _, c := range b {
		x = row(uint8(x)^c) ^ x>>8
	}
	return ^x
}

// Table is a row of the table.
func Table(i uint8) uint32 {
	once.Do(fill)
	return table[i]
}

// Seal is b with its sum behind.
func Seal(b []byte) []byte {
	sealed := make([]byte, len(b)+sumSize)
	n := copy(sealed, b)
	sum := sumBytes(b)
	copy(sealed[n:], sum[:])
	return sealed
}

// Open is b without the sum behind, if that is the sum of the others.
func Open(b []byte) ([]byte, bool) {
	n := len(b) - sumSize
	if n < 0 {
		return nil, false
	}
	sum := sumBytes(b[:n])
	if !bytes.Equal(sum[:], b[n:]) {
		return nil, false
	}
	opened := make([]byte, n)
	copy(opened, b)
	return opened, true
}

// sumBytes are the bytes of the sum of b, the highest first.
func sumBytes(b []byte) [sumSize]byte {
	x := Sum(b)
	return [sumSize]byte{byte(x >> 24), byte(x >> 16), byte(x >> 8), byte(x)}
}
