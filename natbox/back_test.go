package natbox_test

import (
	"strings"
	"testing"

	"natbox/api"
	"natbox/natbox"
)

// goesBack: a frame of UDP to an external port of the box's comes out for the endpoint that has this port.
func goesBack(t *testing.T, why string, x *natbox.Box, src, sport, asked, external, dst, dport int) {
	t.Helper()
	turnsBack(t, why, x, udpOf(src, sport, boxOut, asked, 64, "hi"), udpOf(boxOut, external, dst, dport, 63, "hi"))
}

func TestP14BackInside(t *testing.T) {
	x := made(t, roomy(9))
	goesOut(t, "who is asked", x, hostIn, 5000, hostOut, 53, 40000)
	ticks(t, x, 4)
	goesBack(t, "who asks", x, otherIn, 7, 40000, 40001, hostIn, 5000)
	asked := api.Mapping{Proto: 17, Addr: hostIn, Port: 5000, External: 40000, Left: 26, Peers: 1}
	lists(t, "who is asked stays as it is", x, asked, api.Mapping{Proto: 17, Addr: otherIn, Port: 7, External: 40001, Left: 30, Peers: 1})
	ticks(t, x, 4)
	goesBack(t, "once more", x, otherIn, 7, 40000, 40001, hostIn, 5000)
	asked.Left = 22
	lists(t, "once more", x, asked, api.Mapping{Proto: 17, Addr: otherIn, Port: 7, External: 40001, Left: 30, Peers: 1})
	goesOut(t, "the same mapping goes out", x, otherIn, 7, hostOut, 53, 40001)
	goesBack(t, "the answer", x, hostIn, 5000, 40001, 40000, otherIn, 7)
	lists(t, "the answer", x,
		api.Mapping{Proto: 17, Addr: hostIn, Port: 5000, External: 40000, Left: 30, Peers: 2},
		api.Mapping{Proto: 17, Addr: otherIn, Port: 7, External: 40001, Left: 30, Peers: 2})
	turnsBack(t, "the same host, another endpoint", x, udpOf(hostIn, 40009, boxOut, 40000, 2, ""), udpOf(boxOut, 40009, hostIn, 5000, 1, ""))
	carries(t, "from the outside", x, api.Outside, udpOf(hostOut, 9, boxOut, 40009, 64, ""), udpOf(hostOut, 9, hostIn, 40009, 63, ""))
}

func TestP14TCP(t *testing.T) {
	x := made(t, roomy(9))
	carries(t, "who is asked", x, api.Inside, tcpOf(hostIn, 80, hostOut, 80, 64, ""), tcpOf(boxOut, 40000, hostOut, 80, 63, ""))
	goesOut(t, "UDP has its own ports", x, otherIn, 80, hostOut, 53, 40000)
	ticks(t, x, 9)
	turnsBack(t, "who asks", x, tcpOf(otherIn, 7, boxOut, 40000, 64, "hello"), tcpOf(boxOut, 40001, hostIn, 80, 63, "hello"))
	turnsBack(t, "the answer", x, tcpOf(hostIn, 80, boxOut, 40001, 64, "hello"), tcpOf(boxOut, 40000, otherIn, 7, 63, "hello"))
	lists(t, "both", x,
		api.Mapping{Proto: 6, Addr: hostIn, Port: 80, External: 40000, Left: 60, Peers: 2},
		api.Mapping{Proto: 6, Addr: otherIn, Port: 7, External: 40001, Left: 60, Peers: 1},
		api.Mapping{Proto: 17, Addr: otherIn, Port: 80, External: 40000, Left: 21, Peers: 1})
}

// What an endpoint sends to itself changes its one mapping as what it sends to another does.
func TestP14ToItself(t *testing.T) {
	x := made(t, roomy(1))
	goesOut(t, "a mapping", x, hostIn, 5000, hostOut, 53, 40000)
	ticks(t, x, 29)
	goesBack(t, "to itself", x, hostIn, 5000, 40000, 40000, hostIn, 5000)
	lists(t, "to itself", x, api.Mapping{Proto: 17, Addr: hostIn, Port: 5000, External: 40000, Left: 30, Peers: 2})
	goesBack(t, "once more", x, hostIn, 5000, 40000, 40000, hostIn, 5000)
	lists(t, "once more", x, api.Mapping{Proto: 17, Addr: hostIn, Port: 5000, External: 40000, Left: 30, Peers: 2})
}

func TestP14NobodyIsThere(t *testing.T) {
	x := made(t, roomy(9))
	for _, port := range []int{0, 1, 5000, 39999, 40000, 40009, 40010, 65535} {
		keepsStill(t, "no mapping", x, api.Inside, udpOf(otherIn, 7, boxOut, port, 64, ""), api.ErrNone)
		keepsStill(t, "no mapping", x, api.Inside, tcpOf(otherIn, 7, boxOut, port, 64, ""), api.ErrNone)
	}
	keepsStill(t, "it would get this port itself", x, api.Inside, udpOf(otherIn, 40000, boxOut, 40000, 64, ""), api.ErrNone)
	goesOut(t, "a mapping", x, hostIn, 5000, hostOut, 53, 40000)
	keepsStill(t, "the port inside", x, api.Inside, udpOf(otherIn, 7, boxOut, 5000, 64, ""), api.ErrNone)
	keepsStill(t, "the port beside", x, api.Inside, udpOf(otherIn, 7, boxOut, 40001, 64, ""), api.ErrNone)
	keepsStill(t, "the peer's port", x, api.Inside, udpOf(otherIn, 7, boxOut, 53, 64, ""), api.ErrNone)
	keepsStill(t, "another protocol", x, api.Inside, tcpOf(otherIn, 7, boxOut, 40000, 64, ""), api.ErrNone)
	keepsStill(t, "a request", x, api.Inside, queryOf(8, otherIn, boxOut, 40000, 64, ""), api.ErrKind)
	goesOut(t, "the box's port, but another address", x, otherIn, 7, hostOut, 40000, 40001)
	ticks(t, x, 29)
	goesBack(t, "the last tick", x, otherIn, 7, 40000, 40001, hostIn, 5000)
	ticks(t, x, 1)
	keepsStill(t, "too late: being asked gave no time", x, api.Inside, udpOf(otherIn, 7, boxOut, 40000, 64, ""), api.ErrNone)
	carries(t, "a request", x, api.Inside, queryOf(8, hostIn, hostOut, 5000, 64, ""), queryOf(8, boxOut, hostOut, 40000, 63, ""))
	keepsStill(t, "a query's port", x, api.Inside, udpOf(otherIn, 7, boxOut, 40000, 64, ""), api.ErrNone)
}

func TestP14Full(t *testing.T) {
	x := made(t, wordy(2))
	goesOut(t, "who is asked", x, hostIn, 5000, hostOut, 53, 40000)
	goesOut(t, "another", x, otherIn, 5000, hostOut, 53, 40001)
	f := udpOf(otherIn, 7, boxOut, 40000, 64, "hi")
	tells(t, "no mapping more", x, api.Inside, f, api.ErrFull, own(boxIn, 3, 3, 0, f))
	f = cuttable(f)
	tells(t, "no mapping more, it may be cut", x, api.Inside, f, api.ErrFull, own(boxIn, 3, 3, 0, f))
	goesBack(t, "who has a mapping", x, otherIn, 5000, 40000, 40001, hostIn, 5000)
	c := wordy(9)
	c.High = c.Low + 1
	x = made(t, c)
	goesOut(t, "who is asked", x, hostIn, 5000, hostOut, 53, 40000)
	goesBack(t, "the last port", x, otherIn, 7, 40000, 40001, hostIn, 5000)
	f = udpOf(otherIn, 8, boxOut, 40000, 64, "hi")
	tells(t, "no port more", x, api.Inside, f, api.ErrFull, own(boxIn, 3, 3, 0, f))
	f = udpOf(otherIn, 40000, boxOut, 40000, 64, "hi")
	tells(t, "the own port is the other's", x, api.Inside, f, api.ErrFull, own(boxIn, 3, 3, 0, f))
}

// The peer is the box's port as it came, not the endpoint behind it.
func TestP14Peers(t *testing.T) {
	x := made(t, wordy(9))
	for i := range 5 {
		goesOut(t, "who is asked", x, hostIn, 5000+i, hostOut, 53, 40000+i)
	}
	for i := range 4 {
		goesBack(t, "a peer more", x, otherIn, 7, 40000+i, 40005, hostIn, 5000+i)
	}
	ticks(t, x, 1)
	f := udpOf(otherIn, 7, boxOut, 40004, 64, "hi")
	tells(t, "a fifth peer", x, api.Inside, f, api.ErrFull, own(boxIn, 3, 3, 0, f))
	isFull(t, "the endpoint is no peer", x, otherIn, 7, hostIn, 5000)
	goesBack(t, "a known peer", x, otherIn, 7, 40003, 40005, hostIn, 5003)
	ticks(t, x, 29)
	goesOut(t, "the port is another one's", x, hostIn, 6000, hostOut, 53, 40000)
	goesBack(t, "and still a peer", x, otherIn, 7, 40000, 40005, hostIn, 6000)
	isFull(t, "four peers", x, otherIn, 7, hostOut, 53)
	f = udpOf(hostIn, 6000, boxOut, 40000, 64, "hi")
	for i := range 3 {
		goesOut(t, "a peer more", x, hostIn, 6000, otherOut, i, 40000)
	}
	tells(t, "to itself, a fifth peer", x, api.Inside, f, api.ErrFull, own(boxIn, 3, 3, 0, f))
}

// What goes back must fit the inside, whatever fits the outside.
func TestP14LateOrTooBig(t *testing.T) {
	text := func(total int) string { return strings.Repeat("x", total-40) }
	for _, mtus := range [][2]int{{100, 120}, {120, 100}} {
		c := wordy(3)
		c.InMTU = mtus[0]
		c.OutMTU = mtus[1]
		x := mapped(t, c)
		for ttl := range 2 {
			f := tcpOf(otherIn, 7, boxOut, 40000, ttl, text(200))
			tells(t, "too long under way", x, api.Inside, f, api.ErrTTL, own(boxIn, 11, 0, 0, f))
		}
		f := tcpOf(otherIn, 7, boxOut, 40000, 2, text(mtus[0]+1))
		tells(t, "a byte too long", x, api.Inside, f, api.ErrBig, own(boxIn, 3, 4, mtus[0], f))
		keepsStill(t, "a byte too long, it may be cut", x, api.Inside, cuttable(f), api.ErrBig)
		f = tcpOf(hostIn, 5000, boxOut, 40000, 64, text(mtus[0]))
		turnsBack(t, "as long as may be", x, f+"tail", tcpOf(boxOut, 40000, hostIn, 5000, 63, text(mtus[0]))+"tail")
	}
}

func TestP14TheOrderOfErrors(t *testing.T) {
	c := wordy(1)
	x := made(t, c)
	goesOut(t, "the one mapping", x, hostIn, 5000, hostOut, 53, 40000)
	long := strings.Repeat("x", 200)
	keepsStill(t, "address, none", x, api.Inside, udpOf(boxOut, 7, boxOut, 40001, 1, long), api.ErrAddress)
	keepsStill(t, "none, TTL, length, full", x, api.Inside, udpOf(otherIn, 7, boxOut, 40001, 1, long), api.ErrNone)
	keepsStill(t, "none, length, full", x, api.Inside, udpOf(otherIn, 7, boxOut, 40001, 64, long), api.ErrNone)
	keepsStill(t, "none, full", x, api.Inside, udpOf(otherIn, 7, boxOut, 40001, 64, ""), api.ErrNone)
	f := udpOf(otherIn, 7, boxOut, 40000, 1, long)
	tells(t, "TTL, length, full", x, api.Inside, f, api.ErrTTL, own(boxIn, 11, 0, 0, f))
	f = udpOf(otherIn, 7, boxOut, 40000, 1, "")
	tells(t, "TTL, full", x, api.Inside, f, api.ErrTTL, own(boxIn, 11, 0, 0, f))
	f = udpOf(otherIn, 7, boxOut, 40000, 64, long)
	tells(t, "length, full", x, api.Inside, f, api.ErrBig, own(boxIn, 3, 4, 120, f))
	f = udpOf(otherIn, 7, boxOut, 40000, 64, "")
	tells(t, "full", x, api.Inside, f, api.ErrFull, own(boxIn, 3, 3, 0, f))
}

func TestP14EveryByteElse(t *testing.T) {
	x := mapped(t, roomy(5))
	d := dice{41}
	for range 300 {
		options := d.text(4 * d.below(11))
		tail := d.text(d.below(3) * d.below(9))
		text := d.text(d.below(40))
		fill := d.text(d.below(2) * d.below(7))
		ttl := 2 + d.below(254)
		in := udpBody(otherIn, 7, boxOut, 40000, text, fill)
		out := udpBody(boxOut, 40001, hostIn, 5000, text, fill)
		turnsBack(t, "UDP", x, wrapped(otherIn, boxOut, ttl, api.UDP, options, in, tail), wrapped(boxOut, hostIn, ttl-1, api.UDP, options, out, tail))
		in = with(in, 6, "\x00\x00")
		out = with(out, 6, "\x00\x00")
		turnsBack(t, "no checksum", x, wrapped(otherIn, boxOut, ttl, api.UDP, options, in, tail), wrapped(boxOut, hostIn, ttl-1, api.UDP, options, out, tail))
		in = tcpBody(otherIn, 7, boxOut, 40000, 5, text)
		out = tcpBody(boxOut, 40001, hostIn, 5000, 5, text)
		turnsBack(t, "TCP", x, wrapped(otherIn, boxOut, ttl, api.TCP, options, in, tail), wrapped(boxOut, hostIn, ttl-1, api.TCP, options, out, tail))
	}
	nought := carried(ahead(boxOut, hostIn, api.UDP, 10) + word(40001) + word(5000) + word(10))
	want := udpOf(boxOut, 40001, hostIn, 5000, 63, word(nought))
	if wordAt(want, 26) != 65535 {
		t.Fatalf("UDP's checksum is %d, not 65535", wordAt(want, 26))
	}
	turnsBack(t, "a checksum of 65535", x, udpOf(otherIn, 7, boxOut, 40000, 64, word(nought)), want)
}
