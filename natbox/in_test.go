package natbox_test

import (
	"testing"

	"natbox/api"
)

func TestP9ComesIn(t *testing.T) {
	x := made(t, roomy(9))
	goesOut(t, "a mapping", x, hostIn, 5000, hostOut, 53, 40000)
	goesOut(t, "a second one", x, otherIn, 6000, hostOut, 53, 40001)
	carries(t, "TCP", x, api.Inside, tcpOf(otherIn, 80, hostOut, 80, 64, ""), tcpOf(boxOut, 40000, hostOut, 80, 63, ""))
	carries(t, "a request", x, api.Inside, queryOf(8, otherIn, hostOut, 9, 64, ""), queryOf(8, boxOut, hostOut, 40000, 63, ""))
	ticks(t, x, 4)
	before := list(t, x)
	carries(t, "the first", x, api.Outside, udpOf(hostOut, 53, boxOut, 40000, 64, "abc"), udpOf(hostOut, 53, hostIn, 5000, 63, "abc"))
	carries(t, "the second", x, api.Outside, udpOf(hostOut, 53, boxOut, 40001, 64, "abc"), udpOf(hostOut, 53, otherIn, 6000, 63, "abc"))
	carries(t, "another sender", x, api.Outside, udpOf(otherOut, 99, boxOut, 40000, 64, ""), udpOf(otherOut, 99, hostIn, 5000, 63, ""))
	carries(t, "a sender with an address of the inside", x, api.Outside, udpOf(hostIn, 5000, boxOut, 40000, 64, ""), udpOf(hostIn, 5000, hostIn, 5000, 63, ""))
	carries(t, "TCP", x, api.Outside, tcpOf(hostOut, 80, boxOut, 40000, 64, "abc"), tcpOf(hostOut, 80, otherIn, 80, 63, "abc"))
	carries(t, "a reply", x, api.Outside, queryOf(0, hostOut, boxOut, 40000, 64, "pong"), queryOf(0, hostOut, otherIn, 9, 63, "pong"))
	carries(t, "a reply of another kind, of another sender", x, api.Outside, queryOf(14, otherOut, boxOut, 40000, 64, "twelve bytes"), queryOf(14, otherOut, otherIn, 9, 63, "twelve bytes"))
	lists(t, "mappings stay as they are", x, before...)
}

func TestP9NobodyHasAsked(t *testing.T) {
	x := made(t, roomy(9))
	for _, port := range []int{0, 1, 5000, 39999, 40000, 40009, 65535} {
		refuses(t, "no mapping", x, api.Outside, udpOf(hostOut, 53, boxOut, port, 64, ""), api.ErrNone)
	}
	goesOut(t, "a mapping", x, hostIn, 5000, hostOut, 53, 40000)
	refuses(t, "the port inside", x, api.Outside, udpOf(hostOut, 53, boxOut, 5000, 64, ""), api.ErrNone)
	refuses(t, "the port beside", x, api.Outside, udpOf(hostOut, 53, boxOut, 40001, 64, ""), api.ErrNone)
	refuses(t, "the port as the source's", x, api.Outside, udpOf(hostOut, 40000, boxOut, 53, 64, ""), api.ErrNone)
	refuses(t, "another protocol", x, api.Outside, tcpOf(hostOut, 53, boxOut, 40000, 64, ""), api.ErrNone)
	refuses(t, "another protocol", x, api.Outside, queryOf(0, hostOut, boxOut, 40000, 64, ""), api.ErrNone)
	ticks(t, x, 29)
	carries(t, "the last tick", x, api.Outside, udpOf(hostOut, 53, boxOut, 40000, 64, ""), udpOf(hostOut, 53, hostIn, 5000, 63, ""))
	ticks(t, x, 1)
	refuses(t, "too late: what came in gave no time", x, api.Outside, udpOf(hostOut, 53, boxOut, 40000, 64, ""), api.ErrNone)
	goesOut(t, "the port is another one's", x, otherIn, 1, hostOut, 53, 40000)
	carries(t, "it goes there", x, api.Outside, udpOf(hostOut, 53, boxOut, 40000, 64, ""), udpOf(hostOut, 53, otherIn, 1, 63, ""))
}

// What comes in makes nobody a peer: room for four is left.
func TestP9SendersAreNoPeers(t *testing.T) {
	x := made(t, good())
	goesOut(t, "a peer", x, hostIn, 5000, hostOut, 53, 40000)
	for i := range 9 {
		carries(t, "a sender", x, api.Outside, udpOf(otherOut+i, 9, boxOut, 40000, 64, ""), udpOf(otherOut+i, 9, hostIn, 5000, 63, ""))
	}
	for i := range 3 {
		goesOut(t, "a peer more", x, hostIn, 5000, hostOut, 54+i, 40000)
	}
	isFull(t, "a sender that is no peer", x, hostIn, 5000, otherOut, 9)
}
