// Package sums: the internet checksum.
package sums

import (
	"natbox/api"
	"natbox/octets"
)

const maxWord = 65535

// Sum is the internet checksum of s (P3).
func Sum(s string) int {
	if len(s) > api.MaxFrame {
		return -1
	}
	total := 0
	// A last odd byte needs no care: octets.Word takes what lies behind the end as 0.
	for i := 0; i < len(s); i += 2 {
		total += octets.Word(s, i)
	}
	return maxWord - fold(total)
}

// Fix is the checksum in place of check where one word that it covers was old and is now (P4).
func Fix(check int, old int, now int) int {
	if !isWord(check) || !isWord(old) || !isWord(now) {
		return -1
	}
	return maxWord - fold((maxWord-check)+(maxWord-old)+now)
}

// Blanked is Sum of s with two noughts at the place of its own checksum field.
func Blanked(s string, field int) int {
	return Sum(octets.PutWord(s, field, 0))
}

func fold(n int) int {
	for n > maxWord {
		n = (n >> 16) + (n & maxWord)
	}
	return n
}

func isWord(n int) bool {
	return n >= 0 && n <= maxWord
}
