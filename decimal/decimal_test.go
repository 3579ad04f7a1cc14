package decimal

import (
	"math"
	"strings"
	"testing"
)

// P19.1: a number's text.
func TestText(t *testing.T) {
	for n, want := range map[int]string{0: "0", 7: "7", -7: "-7", 100: "100", math.MaxInt: "9223372036854775807", math.MinInt: "-9223372036854775808"} {
		if got := Text(n); got != want {
			t.Errorf("%d: %s", n, got)
		}
	}
}

// P19.1: which texts are a number's.
func TestRead(t *testing.T) {
	for _, n := range []int{0, 1, -1, 9, 10, -10, 105, 999999999999999999, -999999999999999999, 100000000000000000} {
		if got, ok := Read(Text(n)); got != n || !ok {
			t.Errorf("%d: %d %v", n, got, ok)
		}
	}
	for _, s := range []string{"", "-", "--1", "-0", "00", "05", "-05", "+1", " 1", "1 ", "1.0", "1e3", "0x1", "1_0", "a", "1-", "/", ":", "\xd9\xa1", "1000000000000000000", "-1000000000000000000", Text(math.MaxInt), strings.Repeat("9", 100), strings.Repeat("0", 18)} {
		if got, ok := Read(s); got != 0 || ok {
			t.Errorf("%q: %d %v", s, got, ok)
		}
	}
}
