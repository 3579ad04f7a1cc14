package filename

import (
	"strings"
	"testing"
)

// P2.1: what a name is.
func TestRight(t *testing.T) {
	for _, name := range []string{"a", "z", "0", "9", ".", "log", "cursor.tmp", strings.Repeat("a", 32)} {
		if !Right(name) {
			t.Errorf("%q may not be", name)
		}
	}
	for _, name := range []string{"", "A", "Z", " ", "a b", "a/b", "a-b", "a\x00", "ä", "`", "{", "/", ":", "-", "a\n", strings.Repeat("a", 33)} {
		if Right(name) {
			t.Errorf("%q may be", name)
		}
	}
}

// P2.1: of all bytes only 37 may stand in a name.
func TestBytes(t *testing.T) {
	right := 0
	for c := range 256 {
		if Right(string([]byte{byte(c)})) {
			right++
		}
	}
	if right != 37 {
		t.Errorf("%d bytes may be", right)
	}
}
