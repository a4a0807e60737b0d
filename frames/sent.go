package frames

import (
	"natbox/api"
	"natbox/octets"
)

// Sent is a frame as it goes on: with one less of TTL, and with checksums that hold for all that stands in it now (P10).
func Sent(frame string) string {
	return sealed(octets.PutByte(frame, ttlPlace, TTL(frame)-1))
}

// sealed is the frame with checksums that hold. They are made anew, as Fix cannot tell 0 from 65535.
func sealed(frame string) string {
	frame = octets.PutWord(frame, headerSumPlace, headerSum(frame))
	field := sumPlace(frame)
	switch Protocol(frame) {
	case api.UDP:
		return sealedUDP(frame, field)
	case api.TCP:
		return octets.PutWord(frame, field, tcpSum(frame))
	case api.ICMP:
		return octets.PutWord(frame, field, icmpSum(frame))
	}
	return frame
}

// sealedUDP makes up no checksum for a frame that came without one.
func sealedUDP(frame string, field int) string {
	if octets.Word(frame, field) == 0 {
		return frame
	}
	return octets.PutWord(frame, field, udpSum(frame))
}
