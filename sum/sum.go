// Package sum: the short digest of a text.
package sum

import (
	"strings"

	"attest/api"
)

// Digits is how many digits a sum has.
const Digits = 3

const digits = "0123456789abcdef"

// Of tells the sum of a text, in three digits.
func Of(s string) string {
	return threeDigits(number(s))
}

// Is tells whether a text looks like a sum: any three digits do, those too
// that are the sum of no text.
func Is(s string) bool {
	for i := range len(s) {
		if strings.IndexByte(digits, s[i]) < 0 {
			return false
		}
	}
	return len(s) == Digits
}

// The number stays below Prime from step to step, so that no text is long
// enough to make it wrap round.
func number(s string) int {
	n := 1
	for i := range len(s) {
		n = (n*api.Factor + int(s[i]) + 1) % api.Prime
	}
	return n
}

func threeDigits(n int) string {
	return string([]byte{digits[n/256%16], digits[n/16%16], digits[n%16]})
}
