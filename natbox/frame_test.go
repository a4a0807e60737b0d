package natbox_test

import (
	"math"
	"strings"
	"testing"

	"natbox/api"
)

func TestP7TheDocumentsFrame(t *testing.T) {
	x := made(t, good())
	in := unhex(t, "4500002000000000 4011468e0a000005 c6336407 13880035000cf312 61626364")
	out := unhex(t, "4500002000000000 3f111589cb007109 c6336407 9c400035000c3855 61626364")
	carries(t, "the document's frame", x, api.Inside, in, out)
	lists(t, "the document's frame", x, api.Mapping{Proto: 17, Addr: 0x0a000005, Port: 5000, External: 40000, Left: 30, Peers: 1})
	late := unhex(t, "4500002000000000 0111858e0a000005 c6336407 13880035000cf312 61626364")
	refuses(t, "the document's frame with TTL 1", x, api.Inside, late, api.ErrTTL)
}

func TestP7NoSuchSide(t *testing.T) {
	x := made(t, good())
	for _, side := range []int{-1, 2, 3, 256, 1 << 32, math.MinInt, math.MaxInt} {
		refuses(t, "a frame", x, side, udp("abcd"), api.ErrSide)
		refuses(t, "no frame", x, side, "", api.ErrSide)
	}
	lists(t, "no side", x)
}

func TestP7ErrorsOfCheck(t *testing.T) {
	x := made(t, good())
	for side := range 2 {
		for _, c := range []checkCase{
			{"nothing", "", api.ErrFrame},
			{"a byte too few", udp("abcd")[:31], api.ErrFrame},
			{"a header's checksum", with(udp("abcd"), 10, "\x00\x00"), api.ErrSum},
			{"a UDP checksum", with(udp("abcd"), 26, "\x00\x01"), api.ErrSum},
			{"more parts", sealHeader(with(udp("abcd"), 6, "\x20\x00")), api.ErrPart},
			{"an address", udpOf(0x7f000001, 1, boxOut, 2, 64, ""), api.ErrAddress},
			{"a protocol", frame(hostIn, hostOut, 64, 2, "", "abcdefgh"), api.ErrKind},
			{"a type", icmp(5, 0, "abcd"), api.ErrKind},
			{"Check goes ahead of the box's addresses", frame(boxIn, boxIn, 0, 2, "", "abcdefgh"), api.ErrKind},
			{"Check goes ahead of the box's addresses", frame(boxIn, boxIn, 0, api.UDP, "", "abc"), api.ErrFrame},
		} {
			refuses(t, c.why, x, side, c.frame, c.want)
		}
	}
	lists(t, "errors of Check", x)
}

func TestP7Addresses(t *testing.T) {
	x := made(t, silent(roomy(9)))
	carries(t, "a mapping", x, api.Inside, udpOf(hostIn, 5000, hostOut, 53, 64, ""), udpOf(boxOut, 40000, hostOut, 53, 63, ""))
	for _, c := range []struct {
		side, src, dst int
		want           api.Errno
	}{
		{api.Inside, boxIn, hostOut, api.ErrAddress},
		{api.Inside, boxOut, hostOut, api.ErrAddress},
		{api.Inside, boxOut, boxOut, api.ErrAddress},
		{api.Inside, hostIn, boxIn, api.ErrAddress},
		{api.Inside, hostIn, boxOut, api.ErrNone},
		{api.Inside, hostIn, otherIn, api.OK},
		{api.Outside, boxIn, boxOut, api.ErrAddress},
		{api.Outside, boxOut, boxOut, api.ErrAddress},
		{api.Outside, hostOut, boxIn, api.ErrAddress},
		{api.Outside, hostOut, hostIn, api.ErrAddress},
		{api.Outside, hostOut, otherOut, api.ErrAddress},
		{api.Outside, hostIn, boxOut, api.OK},
	} {
		port := 40000
		if c.want == api.ErrNone {
			port = 40001
		}
		if r := x.Frame(c.side, udpOf(c.src, 5000, c.dst, port, 64, "")); r.Err != c.want {
			t.Errorf("from %x to %x, side %d: %d, want %d", c.src, c.dst, c.side, r.Err, c.want)
		}
	}
}

func TestP7Kinds(t *testing.T) {
	x := made(t, silent(roomy(9)))
	text := strings.Repeat("t", 12)
	carries(t, "a mapping", x, api.Inside, queryOf(8, hostIn, hostOut, 7, 64, text), queryOf(8, boxOut, hostOut, 40000, 63, text))
	for _, kind := range []int{0, 14} {
		refuses(t, "a reply from the inside", x, api.Inside, queryOf(kind, hostIn, hostOut, 7, 64, text), api.ErrKind)
		refuses(t, "a reply from the inside to the box", x, api.Inside, queryOf(kind, hostIn, boxOut, 40000, 64, text), api.ErrKind)
		carries(t, "a reply", x, api.Outside, queryOf(kind, hostOut, boxOut, 40000, 64, text), queryOf(kind, hostOut, hostIn, 7, 63, text))
	}
	for _, kind := range []int{8, 13} {
		refuses(t, "a request from the outside", x, api.Outside, queryOf(kind, hostOut, boxOut, 40000, 64, text), api.ErrKind)
		refuses(t, "a request from the inside to the box", x, api.Inside, queryOf(kind, otherIn, boxOut, 40000, 64, text), api.ErrKind)
		carries(t, "a request", x, api.Inside, queryOf(kind, hostIn, hostOut, 7, 64, text), queryOf(kind, boxOut, hostOut, 40000, 63, text))
	}
	lists(t, "kinds", x, api.Mapping{Proto: 1, Addr: hostIn, Port: 7, External: 40000, Left: 10, Peers: 1})
}

// Nobody has asked for these, however much of P14 and P15 is built.
func TestP7NobodyHasAsked(t *testing.T) {
	x := made(t, silent(roomy(9)))
	quote := udpOf(boxOut, 40000, hostOut, 53, 63, "")
	refuses(t, "UDP", x, api.Outside, udpOf(hostOut, 53, boxOut, 40000, 64, ""), api.ErrNone)
	refuses(t, "an error message from the outside", x, api.Outside, messageOf(otherOut, boxOut, 64, quote), api.ErrNone)
	refuses(t, "an error message from the inside", x, api.Inside, messageOf(hostIn, hostOut, 64, udpOf(hostOut, 53, hostIn, 5000, 64, "")), api.ErrNone)
	refuses(t, "an error message to the box", x, api.Inside, messageOf(hostIn, boxOut, 64, udpOf(boxOut, 40000, hostIn, 5000, 64, "")), api.ErrNone)
	refuses(t, "UDP to the box", x, api.Inside, udpOf(hostIn, 5000, boxOut, 40000, 64, ""), api.ErrNone)
	refuses(t, "TCP to the box", x, api.Inside, tcpOf(hostIn, 5000, boxOut, 40000, 64, ""), api.ErrNone)
	refuses(t, "an error message, TTL 0", x, api.Outside, messageOf(otherOut, boxOut, 0, quote), api.ErrNone)
	refuses(t, "UDP to the box, TTL 0", x, api.Inside, udpOf(hostIn, 5000, boxOut, 40000, 0, ""), api.ErrNone)
	lists(t, "nobody", x)
}

func TestP7TTL(t *testing.T) {
	x := made(t, silent(good()))
	for ttl := range 2 {
		refuses(t, "no mapping, TTL 0 or 1", x, api.Inside, udpOf(hostIn, 5000, hostOut, 53, ttl, ""), api.ErrTTL)
		lists(t, "TTL 0 or 1", x)
	}
	for ttl := 2; ttl < 256; ttl++ {
		carries(t, "out", x, api.Inside, udpOf(hostIn, 5000, hostOut, 53, ttl, ""), udpOf(boxOut, 40000, hostOut, 53, ttl-1, ""))
		carries(t, "in", x, api.Outside, udpOf(hostOut, 53, boxOut, 40000, ttl, ""), udpOf(hostOut, 53, hostIn, 5000, ttl-1, ""))
	}
	ticks(t, x, 1)
	for ttl := range 2 {
		refuses(t, "out, TTL 0 or 1", x, api.Inside, udpOf(hostIn, 5000, otherOut, 53, ttl, ""), api.ErrTTL)
		refuses(t, "in, TTL 0 or 1", x, api.Outside, udpOf(hostOut, 53, boxOut, 40000, ttl, ""), api.ErrTTL)
	}
	lists(t, "TTL 0 or 1", x, api.Mapping{Proto: 17, Addr: hostIn, Port: 5000, External: 40000, Left: 29, Peers: 1})
}

func TestP7Length(t *testing.T) {
	c := silent(good())
	c.InMTU = 120
	c.OutMTU = 100
	x := made(t, c)
	text := func(total int) string { return strings.Repeat("x", total-28) }
	refuses(t, "no mapping, a byte too long", x, api.Inside, udpOf(hostIn, 5000, hostOut, 53, 64, text(101)), api.ErrBig)
	lists(t, "a byte too long", x)
	carries(t, "as long as may be", x, api.Inside, udpOf(hostIn, 5000, hostOut, 53, 64, text(100)), udpOf(boxOut, 40000, hostOut, 53, 63, text(100)))
	carries(t, "a tail is not counted", x, api.Inside, udpOf(hostIn, 5000, hostOut, 53, 64, text(100))+"tail", udpOf(boxOut, 40000, hostOut, 53, 63, text(100))+"tail")
	carries(t, "as long as may be", x, api.Outside, udpOf(hostOut, 53, boxOut, 40000, 64, text(120)), udpOf(hostOut, 53, hostIn, 5000, 63, text(120)))
	refuses(t, "a byte too long", x, api.Outside, udpOf(hostOut, 53, boxOut, 40000, 64, text(121)), api.ErrBig)
	uncut := udpOf(hostIn, 5000, otherOut, 53, 64, text(101))
	refuses(t, "it may be cut", x, api.Inside, sealHeader(with(uncut, 6, "\x00\x00")), api.ErrBig)
	lists(t, "a byte too long", x, api.Mapping{Proto: 17, Addr: hostIn, Port: 5000, External: 40000, Left: 30, Peers: 1})
}

func TestP7TheLongestFrame(t *testing.T) {
	c := good()
	c.OutMTU = api.MaxMTU
	c.InMTU = api.MaxMTU
	x := made(t, c)
	text := strings.Repeat("long", api.MaxFrame)[:api.MaxFrame-28]
	carries(t, "out", x, api.Inside, udpOf(hostIn, 5000, hostOut, 53, 64, text), udpOf(boxOut, 40000, hostOut, 53, 63, text))
	carries(t, "in", x, api.Outside, udpOf(hostOut, 53, boxOut, 40000, 64, text), udpOf(hostOut, 53, hostIn, 5000, 63, text))
	text = text[:api.MaxFrame-40]
	carries(t, "TCP", x, api.Inside, tcpOf(hostIn, 5000, hostOut, 80, 64, text), tcpOf(boxOut, 40000, hostOut, 80, 63, text))
	refuses(t, "a byte more", x, api.Inside, tcpOf(hostIn, 5000, hostOut, 80, 64, text)+"x", api.ErrFrame)
}

// Of each two errors that follow one another there is a frame to which both apply.
func TestP7TheOrderOfErrors(t *testing.T) {
	c := silent(good())
	c.Capacity = 1
	c.OutMTU = 100
	c.InMTU = 100
	x := made(t, c)
	carries(t, "the one mapping", x, api.Inside, udpOf(hostIn, 5000, hostOut, 53, 64, ""), udpOf(boxOut, 40000, hostOut, 53, 63, ""))
	long := strings.Repeat("x", 200)
	refuses(t, "side, Check", x, 2, "", api.ErrSide)
	refuses(t, "Check, address", x, api.Inside, with(udpOf(boxIn, 1, boxIn, 2, 0, long), 10, "\x00\x00"), api.ErrSum)
	refuses(t, "address, kind", x, api.Inside, queryOf(0, boxIn, hostOut, 1, 0, long), api.ErrAddress)
	refuses(t, "address, kind", x, api.Outside, queryOf(8, hostOut, hostIn, 1, 0, long), api.ErrAddress)
	refuses(t, "kind, none, TTL", x, api.Outside, queryOf(8, hostOut, boxOut, 1, 0, long), api.ErrKind)
	refuses(t, "kind, TTL, length", x, api.Inside, queryOf(0, hostIn, hostOut, 1, 0, long), api.ErrKind)
	refuses(t, "kind, none", x, api.Inside, queryOf(8, hostIn, boxOut, 1, 0, long), api.ErrKind)
	refuses(t, "none, TTL, length", x, api.Outside, udpOf(hostOut, 53, boxOut, 40001, 0, long), api.ErrNone)
	refuses(t, "none, length", x, api.Outside, udpOf(hostOut, 53, boxOut, 40001, 64, long), api.ErrNone)
	refuses(t, "TTL, length", x, api.Outside, udpOf(hostOut, 53, boxOut, 40000, 1, long), api.ErrTTL)
	refuses(t, "TTL, length, full", x, api.Inside, udpOf(otherIn, 5000, hostOut, 53, 1, long), api.ErrTTL)
	refuses(t, "TTL, full", x, api.Inside, udpOf(otherIn, 5000, hostOut, 53, 1, ""), api.ErrTTL)
	refuses(t, "length, full", x, api.Inside, udpOf(otherIn, 5000, hostOut, 53, 2, long), api.ErrBig)
	refuses(t, "full", x, api.Inside, udpOf(otherIn, 5000, hostOut, 53, 2, ""), api.ErrFull)
	lists(t, "errors", x, api.Mapping{Proto: 17, Addr: hostIn, Port: 5000, External: 40000, Left: 30, Peers: 1})
}
