// Package sum: the short digest of a text.
package sum

import "attest/api"

const digits = "0123456789abcdef"

// Of tells the sum of a text, in three digits.
func Of(s string) string {
	return threeDigits(number(s))
}

// The number stays below Prime from step to step, so that no text is long
// enough to make it wrap round.
func number(s string) int {
	n := 1
	for i := range len(s) {
		n = (n*api.Factor + int(s[i]) + 1) % api.Prime
	}
	return n
}

func threeDigits(n int) string {
	return string([]byte{digits[n/256%16], digits[n/16%16], digits[n%16]})
}
