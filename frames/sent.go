package frames

import (
	"natbox/api"
	"natbox/octets"
)

// Sent is a frame as it goes on: with one less of TTL, and with checksums that hold for all that stands in it now (P10).
// They are made anew, as Fix cannot tell 0 from 65535.
func Sent(frame string) string {
	frame = octets.PutByte(frame, ttlPlace, TTL(frame)-1)
	frame = octets.PutWord(frame, headerSumPlace, headerSum(frame))
	start := headerLength(frame)
	switch Protocol(frame) {
	case api.UDP:
		return sentUDP(frame, start+udpSumPlace)
	case api.TCP:
		return octets.PutWord(frame, start+tcpSumPlace, tcpSum(frame))
	case api.ICMP:
		return octets.PutWord(frame, start+icmpSumPlace, icmpSum(frame))
	}
	return frame
}

// sentUDP makes up no checksum for a frame that came without one.
func sentUDP(frame string, field int) string {
	if octets.Word(frame, field) == 0 {
		return frame
	}
	return octets.PutWord(frame, field, udpSum(frame))
}
