// Package decimal holds numbers' texts, as a trace and a script have them.
package decimal

import "strconv"

// mostDigits is how many digits a number that is read may have, so that it fits.
const mostDigits = 18

// Text is a number's text.
func Text(n int) string { return strconv.Itoa(n) }

// Read is the number whose text s is; false, if it is none's.
func Read(s string) (int, bool) {
	digits := s
	minus := len(s) > 0 && s[0] == '-'
	if minus {
		digits = s[1:]
	}
	if !rightDigits(digits) || minus && digits == "0" {
		return 0, false
	}
	n := 0
	for i := range len(digits) {
		n = 10*n + int(digits[i]-'0')
	}
	if minus {
		n = -n
	}
	return n, true
}

// rightDigits asks whether s are a number's digits: the first one isn't 0, but of 0 itself.
func rightDigits(s string) bool {
	if len(s) < 1 || len(s) > mostDigits || len(s) > 1 && s[0] == '0' {
		return false
	}
	for i := range len(s) {
		if s[i] < '0' || s[i] > '9' {
			return false
		}
	}
	return true
}
