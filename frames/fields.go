// Package frames: what stands where in a frame, and what is wrong with one.
package frames

import "natbox/octets"

// Places in a header, and the bits in it that are looked at.
const (
	minHeader = 20

	totalPlace       = 2
	partPlace        = 6
	protocolPlace    = 9
	headerSumPlace   = 10
	sourcePlace      = 12
	destinationPlace = 16

	moreParts    = 0x2000
	partDistance = 0x1fff
)

// Places in bodies, and how short these may be.
const (
	minUDP         = 8
	udpLengthPlace = 4
	udpSumPlace    = 6

	minTCP         = 20
	tcpHeaderPlace = 12
	tcpSumPlace    = 16

	minICMP      = 8
	minTimestamp = 20
	icmpSumPlace = 2
	quotePlace   = 8
	minQuoted    = 8
)

// Types of ICMP.
const (
	echoReply        = 0
	unreachable      = 3
	echo             = 8
	timeExceeded     = 11
	parameterProblem = 12
	timestamp        = 13
	timestampReply   = 14
)

// Usable tells whether an address may stand in a frame; a number of more than 32 bits is none.
func Usable(address int) bool {
	first := address >> 24
	return first >= 1 && first <= 126 || first >= 128 && first <= 223
}

func version(frame string) int {
	return octets.Byte(frame, 0) >> 4
}

func headerLength(frame string) int {
	return (octets.Byte(frame, 0) & 15) * 4
}

func totalLength(frame string) int {
	return octets.Word(frame, totalPlace)
}

func protocol(frame string) int {
	return octets.Byte(frame, protocolPlace)
}

func source(frame string) int {
	return octets.Long(frame, sourcePlace)
}

func destination(frame string) int {
	return octets.Long(frame, destinationPlace)
}

// body leaves out the tail.
func body(frame string) string {
	return octets.Part(frame, headerLength(frame), totalLength(frame))
}

func isRequest(kind int) bool {
	return kind == echo || kind == timestamp
}

func isReply(kind int) bool {
	return kind == echoReply || kind == timestampReply
}

func isErrorMessage(kind int) bool {
	return kind == unreachable || kind == timeExceeded || kind == parameterProblem
}
