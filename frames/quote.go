package frames

import (
	"natbox/api"
	"natbox/octets"
	"natbox/sums"
)

// Quote is the beginning of the frame of which an error message tells. The message's tail is no part of it.
func Quote(message string) string {
	text := body(message)
	return octets.Part(text, quotePlace, len(text))
}

// WithQuote is the error message with its quote rewritten, which must be as long as it was.
// The checksum fields in the quote follow (P16); the message's own are left to Sent.
func WithQuote(message string, quote string) string {
	before := Quote(message)
	quote = withFixedHeader(before, quote)
	quote = withFixedBody(before, quote)
	start := headerLength(message) + quotePlace
	return octets.Part(message, 0, start) + quote + octets.Part(message, start+len(quote), len(message))
}

// withFixedHeader fixes the checksum and does not make it anew: whether it held is for the host to find that is told.
func withFixedHeader(before string, quote string) string {
	check := octets.Word(quote, headerSumPlace)
	return octets.PutWord(quote, headerSumPlace, fixedByAddresses(check, before, quote))
}

// withFixedBody leaves alone a field of which the quote has not both bytes, as PutWord does.
func withFixedBody(before string, quote string) string {
	field := sumPlace(quote)
	check := octets.Word(quote, field)
	switch Protocol(quote) {
	case api.UDP:
		check = fixedUDP(check, before, quote)
	case api.TCP:
		check = fixedByEnds(check, before, quote)
	case api.ICMP:
		check = fixedByWord(check, before, quote, headerLength(quote)+queryPlace)
	}
	return octets.PutWord(quote, field, check)
}

// fixedUDP keeps the meaning of 0, which says that there is no checksum.
func fixedUDP(check int, before string, quote string) int {
	if check == 0 {
		return 0
	}
	check = fixedByEnds(check, before, quote)
	if check == 0 {
		return 65535
	}
	return check
}

// fixedByEnds is for UDP and TCP: ICMP covers no addresses.
func fixedByEnds(check int, before string, quote string) int {
	check = fixedByAddresses(check, before, quote)
	check = fixedByWord(check, before, quote, portPlace(quote, sourcePortPlace))
	return fixedByWord(check, before, quote, portPlace(quote, destinationPortPlace))
}

func fixedByAddresses(check int, before string, quote string) int {
	for place := sourcePlace; place < minHeader; place += 2 {
		check = fixedByWord(check, before, quote, place)
	}
	return check
}

// fixedByWord leaves out a word that is the same as before, for which Fix would make 0 of 65535.
func fixedByWord(check int, before string, quote string, place int) int {
	old := octets.Word(before, place)
	now := octets.Word(quote, place)
	if old == now {
		return check
	}
	return sums.Fix(check, old, now)
}
