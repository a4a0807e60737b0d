package frames

import (
	"natbox/api"
	"natbox/octets"
)

// Codes of a host or a way that is not reached.
const (
	noPort = 3
	noCut  = 4
)

// Told is the message that comes from an address and tells of an error that a frame met (P12).
// The mtu is the one for which the frame was too long, and counts with ErrBig alone.
func Told(err api.Errno, from int, mtu int, frame string) string {
	switch err {
	case api.ErrTTL:
		return about(frame, from, timeExceeded, 0, 0)
	case api.ErrBig:
		return about(frame, from, unreachable, noCut, mtu)
	case api.ErrFull:
		return about(frame, from, unreachable, noPort, 0)
	}
	return ""
}

// about is an error message to the frame's source, as short as Check lets a quote be.
func about(frame string, from int, kind int, code int, hint int) string {
	quote := octets.Part(frame, 0, headerLength(frame)+minQuoted)
	text := octets.FromWord(kind<<8|code) + octets.FromLong(0) + octets.FromWord(hint) + quote
	return sealed(ownHeader(from, SourceAddress(frame), len(text)) + text)
}

// ownHeader is the header of a frame that the box itself sends. Its checksum is left to sealed.
func ownHeader(from int, to int, length int) string {
	first := octets.FromWord(0x4500) + octets.FromWord(minHeader+length)
	second := octets.FromLong(0)
	third := octets.FromWord(api.OwnTTL<<8|api.ICMP) + octets.FromWord(0)
	return first + second + third + octets.FromLong(from) + octets.FromLong(to)
}
