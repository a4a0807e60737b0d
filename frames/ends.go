package frames

import (
	"natbox/api"
	"natbox/octets"
)

// End is one end of a frame's way.
type End struct {
	Address, Port int
}

// Source is the end that a frame comes from. An error message has no ports: ask for its addresses alone.
func Source(frame string) End {
	return End{SourceAddress(frame), octets.Word(frame, portPlace(frame, sourcePortPlace))}
}

// Destination is the end that a frame goes to. An error message has no ports: ask for its addresses alone.
func Destination(frame string) End {
	return End{DestinationAddress(frame), octets.Word(frame, portPlace(frame, destinationPortPlace))}
}

// Peer is the destination as mappings remember it: a query's identifier is no port of the host that it goes to.
func Peer(frame string) End {
	if Protocol(frame) == api.ICMP {
		return End{DestinationAddress(frame), 0}
	}
	return Destination(frame)
}

// WithSource is the frame with another source. Its checksums are left to Sent.
func WithSource(frame string, end End) string {
	frame = WithSourceAddress(frame, end.Address)
	return octets.PutWord(frame, portPlace(frame, sourcePortPlace), end.Port)
}

// WithDestination is the frame with another destination. Its checksums are left to Sent.
func WithDestination(frame string, end End) string {
	frame = WithDestinationAddress(frame, end.Address)
	return octets.PutWord(frame, portPlace(frame, destinationPortPlace), end.Port)
}

// WithSourceAddress is for error messages, which have no ports.
func WithSourceAddress(frame string, address int) string {
	return octets.PutLong(frame, sourcePlace, address)
}

// WithDestinationAddress is for error messages, which have no ports.
func WithDestinationAddress(frame string, address int) string {
	return octets.PutLong(frame, destinationPlace, address)
}

// portPlace is where a port stands, which in a body with ports of its own has the given place.
func portPlace(frame string, place int) int {
	if Protocol(frame) == api.ICMP {
		place = queryPlace
	}
	return headerLength(frame) + place
}
