package frames

import (
	"natbox/api"
	"natbox/octets"
)

// Check tells what is wrong with a frame (P5).
func Check(frame string) api.Errno {
	err := checkHeader(frame)
	if err != api.OK {
		return err
	}
	switch Protocol(frame) {
	case api.UDP:
		return checkUDP(frame)
	case api.TCP:
		return checkTCP(frame)
	case api.ICMP:
		return checkICMP(frame)
	}
	return api.ErrKind
}

func checkHeader(frame string) api.Errno {
	if !headerFits(frame) {
		return api.ErrFrame
	}
	if octets.Word(frame, headerSumPlace) != headerSum(frame) {
		return api.ErrSum
	}
	if octets.Word(frame, partPlace)&(moreParts|partDistance) != 0 {
		return api.ErrPart
	}
	if !Usable(SourceAddress(frame)) || !Usable(DestinationAddress(frame)) {
		return api.ErrAddress
	}
	return api.OK
}

func headerFits(frame string) bool {
	if len(frame) < minHeader || len(frame) > api.MaxFrame || version(frame) != 4 {
		return false
	}
	header := headerLength(frame)
	total := TotalLength(frame)
	return header >= minHeader && header <= total && total <= len(frame)
}

func checkUDP(frame string) api.Errno {
	text := body(frame)
	if len(text) < minUDP {
		return api.ErrFrame
	}
	length := octets.Word(text, udpLengthPlace)
	if length < minUDP || length > len(text) {
		return api.ErrFrame
	}
	sum := octets.Word(text, udpSumPlace)
	if sum != 0 && sum != udpSum(frame) {
		return api.ErrSum
	}
	return api.OK
}

func checkTCP(frame string) api.Errno {
	text := body(frame)
	if len(text) < minTCP {
		return api.ErrFrame
	}
	header := (octets.Byte(text, tcpHeaderPlace) >> 4) * 4
	if header < minTCP || header > len(text) {
		return api.ErrFrame
	}
	if octets.Word(text, tcpSumPlace) != tcpSum(frame) {
		return api.ErrSum
	}
	return api.OK
}

func checkICMP(frame string) api.Errno {
	text := body(frame)
	if len(text) < minICMP {
		return api.ErrFrame
	}
	if octets.Word(text, icmpSumPlace) != icmpSum(frame) {
		return api.ErrSum
	}
	kind := icmpType(frame)
	if isErrorType(kind) {
		return checkQuote(octets.Part(text, quotePlace, len(text)))
	}
	code := octets.Byte(text, 1)
	if code != 0 || !isRequestType(kind) && !isReplyType(kind) {
		return api.ErrKind
	}
	if (kind == timestamp || kind == timestampReply) && len(text) < minTimestamp {
		return api.ErrFrame
	}
	return api.OK
}

// checkQuote trusts no total length: a quote is only the beginning of a frame.
func checkQuote(quote string) api.Errno {
	header := headerLength(quote)
	if len(quote) < minHeader || version(quote) != 4 || header < minHeader || len(quote) < header+minQuoted {
		return api.ErrFrame
	}
	if octets.Word(quote, partPlace)&partDistance != 0 {
		return api.ErrPart
	}
	switch Protocol(quote) {
	case api.UDP, api.TCP:
		return api.OK
	case api.ICMP:
		kind := icmpType(quote)
		if isRequestType(kind) || isReplyType(kind) {
			return api.OK
		}
	}
	return api.ErrKind
}
