package frames

import (
	"natbox/api"
	"natbox/octets"
	"natbox/sums"
)

// sumPlace is where the body's checksum field stands.
func sumPlace(frame string) int {
	start := headerLength(frame)
	switch Protocol(frame) {
	case api.UDP:
		return start + udpSumPlace
	case api.TCP:
		return start + tcpSumPlace
	}
	return start + icmpSumPlace
}

// headerSum is what the header's checksum field must be.
func headerSum(frame string) int {
	header := octets.Part(frame, 0, headerLength(frame))
	return sums.Blanked(header, headerSumPlace)
}

// udpSum is what UDP's checksum field must be if there is a checksum.
func udpSum(frame string) int {
	length := octets.Word(body(frame), udpLengthPlace)
	covered := octets.Part(body(frame), 0, length)
	sum := sums.Blanked(ahead(frame, api.UDP, length)+covered, aheadLength+udpSumPlace)
	// In the field 0 says that there is no checksum.
	if sum == 0 {
		return 65535
	}
	return sum
}

// tcpSum is what TCP's checksum field must be.
func tcpSum(frame string) int {
	covered := body(frame)
	return sums.Blanked(ahead(frame, api.TCP, len(covered))+covered, aheadLength+tcpSumPlace)
}

// icmpSum is what ICMP's checksum field must be.
func icmpSum(frame string) int {
	return sums.Blanked(body(frame), icmpSumPlace)
}

const aheadLength = 12

// ahead is what the checksums of UDP and TCP cover ahead of the body, aheadLength bytes.
func ahead(frame string, protocol int, length int) string {
	addresses := octets.Part(frame, sourcePlace, minHeader)
	return addresses + octets.FromWord(protocol) + octets.FromWord(length)
}
