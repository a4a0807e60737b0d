// Package octets reads and writes numbers in texts of bytes, high byte first.
// No place, however far off, makes a call panic: callers need not test twice.
package octets

// Byte is the byte at place i, 0 where the text has none.
func Byte(s string, i int) int {
	if i < 0 || i >= len(s) {
		return 0
	}
	return int(s[i])
}

// Word is the number in the two bytes from place i on.
func Word(s string, i int) int {
	return Byte(s, i)<<8 | Byte(s, i+1)
}

// Long is the number in the four bytes from place i on.
func Long(s string, i int) int {
	return Word(s, i)<<16 | Word(s, i+2)
}

// Part is the text from place from up to place to, empty where the text has no such part.
func Part(s string, from int, to int) string {
	if from < 0 || from > to || to > len(s) {
		return ""
	}
	return s[from:to]
}

// FromWord is the number n, of which the lowest 16 bits count, as two bytes.
func FromWord(n int) string {
	return string([]byte{byte(n >> 8), byte(n)})
}

// FromLong is the number n, of which the lowest 32 bits count, as four bytes.
func FromLong(n int) string {
	return FromWord(n>>16) + FromWord(n)
}

// PutWord is the text with the number n in the two bytes from place i on, unchanged where it has no such bytes.
func PutWord(s string, i int, n int) string {
	if i < 0 || i > len(s)-2 {
		return s
	}
	return s[:i] + FromWord(n) + s[i+2:]
}

// PutLong is the text with the number n, of which the lowest 32 bits count, in the four bytes from place i on, unchanged where it has no such bytes.
func PutLong(s string, i int, n int) string {
	if i < 0 || i > len(s)-4 {
		return s
	}
	return s[:i] + FromLong(n) + s[i+4:]
}

// PutByte is the text with the number n, of which the lowest 8 bits count, in the byte at place i, unchanged where it has no such byte.
func PutByte(s string, i int, n int) string {
	if i < 0 || i >= len(s) {
		return s
	}
	return s[:i] + string([]byte{byte(n)}) + s[i+1:]
}
