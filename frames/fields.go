// Package frames: what stands where in a frame, what is wrong with one, how one and what it quotes are rewritten, and how the box tells of one.
package frames

import (
	"natbox/api"
	"natbox/octets"
)

// Places in a header, and the bits in it that are looked at.
const (
	minHeader = 20

	totalPlace       = 2
	partPlace        = 6
	ttlPlace         = 8
	protocolPlace    = 9
	headerSumPlace   = 10
	sourcePlace      = 12
	destinationPlace = 16

	dontCut      = 0x4000
	moreParts    = 0x2000
	partDistance = 0x1fff
)

// Places in bodies, and how short these may be.
const (
	sourcePortPlace      = 0
	destinationPortPlace = 2

	minUDP         = 8
	udpLengthPlace = 4
	udpSumPlace    = 6

	minTCP         = 20
	tcpHeaderPlace = 12
	tcpSumPlace    = 16

	minICMP      = 8
	minTimestamp = 20
	icmpSumPlace = 2
	queryPlace   = 4
	quotePlace   = 8
	minQuoted    = 8
)

// Types of ICMP.
const (
	echoReply        = 0
	unreachable      = 3
	echo             = 8
	timeExceeded     = 11
	parameterProblem = 12
	timestamp        = 13
	timestampReply   = 14
)

// Usable tells whether an address may stand in a frame; a number of more than 32 bits is none.
func Usable(address int) bool {
	first := address >> 24
	return first >= 1 && first <= 126 || first >= 128 && first <= 223
}

func version(frame string) int {
	return octets.Byte(frame, 0) >> 4
}

func headerLength(frame string) int {
	return (octets.Byte(frame, 0) & 15) * 4
}

// TotalLength is the frame's length without its tail.
func TotalLength(frame string) int {
	return octets.Word(frame, totalPlace)
}

// MayBeCut tells whether a frame that is too long may go on in parts.
func MayBeCut(frame string) bool {
	return octets.Word(frame, partPlace)&dontCut == 0
}

// TTL tells how far the frame may still go.
func TTL(frame string) int {
	return octets.Byte(frame, ttlPlace)
}

// Protocol is ICMP, TCP or UDP, if Check finds nothing wrong.
func Protocol(frame string) int {
	return octets.Byte(frame, protocolPlace)
}

// SourceAddress is the address that the frame comes from.
func SourceAddress(frame string) int {
	return octets.Long(frame, sourcePlace)
}

// DestinationAddress is the address that the frame goes to.
func DestinationAddress(frame string) int {
	return octets.Long(frame, destinationPlace)
}

// body leaves out the tail.
func body(frame string) string {
	return octets.Part(frame, headerLength(frame), TotalLength(frame))
}

// IsRequest tells whether a frame is a query that asks.
func IsRequest(frame string) bool {
	return Protocol(frame) == api.ICMP && isRequestType(icmpType(frame))
}

// IsReply tells whether a frame is a query that answers.
func IsReply(frame string) bool {
	return Protocol(frame) == api.ICMP && isReplyType(icmpType(frame))
}

// IsErrorMessage tells whether a frame tells of another frame's fate.
func IsErrorMessage(frame string) bool {
	return Protocol(frame) == api.ICMP && isErrorType(icmpType(frame))
}

func icmpType(frame string) int {
	return octets.Byte(frame, headerLength(frame))
}

func isRequestType(kind int) bool {
	return kind == echo || kind == timestamp
}

func isReplyType(kind int) bool {
	return kind == echoReply || kind == timestampReply
}

func isErrorType(kind int) bool {
	return kind == unreachable || kind == timeExceeded || kind == parameterProblem
}
