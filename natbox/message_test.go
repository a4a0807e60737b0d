package natbox_test

import (
	"strings"
	"testing"

	"natbox/api"
	"natbox/natbox"
)

// quoted: what is quoted of a frame of each protocol with these ends; of a query the identifier is the port of the end that the box speaks for.
func quoted(proto, src, sport, dst, dport int) string {
	switch proto {
	case api.UDP:
		return udpOf(src, sport, dst, dport, 9, "abcd")
	case api.TCP:
		return tcpOf(src, sport, dst, dport, 9, "abcd")
	}
	kind, id := 8, sport
	if sport == 53 {
		kind, id = 0, dport
	}
	return queryOf(kind, src, dst, id, 9, "abcd")
}

var protocols = []int{api.ICMP, api.TCP, api.UDP}

// turned: a box in which two hosts have sent to one another by way of the box, the first from port 5000 (40000), the second from port 7 (40001), and the first to the outside too.
func turned(t *testing.T, c api.Config) *natbox.Box {
	t.Helper()
	x := mapped(t, c)
	goesBack(t, "there", x, otherIn, 7, 40000, 40001, hostIn, 5000)
	goesBack(t, "and back", x, hostIn, 5000, 40001, 40000, otherIn, 7)
	turnsBack(t, "there", x, tcpOf(otherIn, 7, boxOut, 40000, 64, ""), tcpOf(boxOut, 40001, hostIn, 5000, 63, ""))
	turnsBack(t, "and back", x, tcpOf(hostIn, 5000, boxOut, 40001, 64, ""), tcpOf(boxOut, 40000, otherIn, 7, 63, ""))
	return x
}

func TestP15TheDocumentsMessage(t *testing.T) {
	x := made(t, good())
	carries(t, "the document's frame", x, api.Inside,
		unhex(t, "4500002000000000 4011468e0a000005 c6336407 13880035000cf312 61626364"),
		unhex(t, "4500002000000000 3f111589cb007109 c6336407 9c400035000c3855 61626364"))
	carries(t, "the document's message", x, api.Outside,
		unhex(t, "4500003800000000 3c0180bac0000201 cb007109 0301282800000000 4500002000000000 3f111589cb007109 c6336407 9c400035000c3855"),
		unhex(t, "4500003800000000 3b01b3bfc0000201 0a000005 0301f62200000000 4500002000000000 3f11478e0a000005 c6336407 13880035000cf312"))
}

// All types and codes, whoever tells, go the same way, and nothing of the box is another for it.
func TestP15EveryMessage(t *testing.T) {
	x := turned(t, roomy(5))
	ticks(t, x, 3)
	before := list(t, x)
	tokens := x.Tokens()
	for _, kind := range []int{3, 11, 12} {
		for code := range 256 {
			for _, proto := range protocols {
				hint := "\x00\xff" + word(code*kind)
				tell := func(src, dst, ttl int, quote string) string {
					return frame(src, dst, ttl, api.ICMP, "", icmpBody(kind, code, hint+quote))
				}
				carries(t, "from the outside", x, api.Outside,
					tell(otherOut, boxOut, 64, quoted(proto, boxOut, 40000, hostOut, 53)),
					tell(otherOut, hostIn, 63, quoted(proto, hostIn, 5000, hostOut, 53)))
				carries(t, "from the inside", x, api.Inside,
					tell(otherIn, otherOut, 64, quoted(proto, otherOut, 53, hostIn, 5000)),
					tell(boxOut, otherOut, 63, quoted(proto, otherOut, 53, boxOut, 40000)))
				if proto != api.ICMP {
					turnsBack(t, "back inside", x,
						tell(hostIn, boxOut, 64, quoted(proto, boxOut, 40001, hostIn, 5000)),
						tell(boxOut, otherIn, 63, quoted(proto, otherIn, 7, boxOut, 40000)))
				}
			}
		}
	}
	lists(t, "messages", x, before...)
	hasTokens(t, "messages", x, tokens)
}

func TestP15FromTheOutside(t *testing.T) {
	x := made(t, roomy(9))
	goesOut(t, "one", x, hostIn, 5000, hostOut, 53, 40000)
	goesOut(t, "two", x, otherIn, 5000, otherOut, 53, 40001)
	goesOut(t, "two, a second peer", x, otherIn, 5000, hostOut, 99, 40001)
	carries(t, "TCP", x, api.Inside, tcpOf(otherIn, 6000, hostOut, 53, 64, ""), tcpOf(boxOut, 40000, hostOut, 53, 63, ""))
	tell := func(src int, quote string) string { return messageOf(src, boxOut, 64, quote) }
	for _, src := range []int{hostOut, otherOut, hostIn, 0x01000000} {
		carries(t, "one", x, api.Outside, tell(src, udpOf(boxOut, 40000, hostOut, 53, 9, "")), messageOf(src, hostIn, 63, udpOf(hostIn, 5000, hostOut, 53, 9, "")))
		carries(t, "two", x, api.Outside, tell(src, udpOf(boxOut, 40001, otherOut, 53, 9, "")), messageOf(src, otherIn, 63, udpOf(otherIn, 5000, otherOut, 53, 9, "")))
		carries(t, "two, its second peer", x, api.Outside, tell(src, udpOf(boxOut, 40001, hostOut, 99, 9, "")), messageOf(src, otherIn, 63, udpOf(otherIn, 5000, hostOut, 99, 9, "")))
		carries(t, "TCP", x, api.Outside, tell(src, tcpOf(boxOut, 40000, hostOut, 53, 9, "")), messageOf(src, otherIn, 63, tcpOf(otherIn, 6000, hostOut, 53, 9, "")))
	}
	for _, q := range []string{
		udpOf(hostIn, 40000, hostOut, 53, 9, ""), udpOf(hostIn, 5000, hostOut, 53, 9, ""), udpOf(boxIn, 40000, hostOut, 53, 9, ""),
		udpOf(boxOut+1, 40000, hostOut, 53, 9, ""), udpOf(boxOut^1<<31, 40000, hostOut, 53, 9, ""),
		udpOf(boxOut, 5000, hostOut, 53, 9, ""), udpOf(boxOut, 40002, hostOut, 53, 9, ""), udpOf(boxOut, 0, hostOut, 53, 9, ""), udpOf(boxOut, 39999, hostOut, 53, 9, ""),
		udpOf(boxOut, 40000, otherOut, 53, 9, ""), udpOf(boxOut, 40000, hostOut, 54, 9, ""), udpOf(boxOut, 40000, hostOut, 99, 9, ""), udpOf(boxOut, 40000, hostOut, 0, 9, ""),
		udpOf(boxOut, 40000, 0, 0, 9, ""), udpOf(boxOut, 40001, 0, 0, 9, ""),
		udpOf(boxOut, 40001, hostOut, 53, 9, ""), udpOf(boxOut, 40001, otherOut, 99, 9, ""),
		udpOf(boxOut, 40000, boxOut, 40001, 9, ""), udpOf(hostOut, 53, boxOut, 40000, 9, ""),
		tcpOf(boxOut, 40001, otherOut, 53, 9, ""), tcpOf(boxOut, 40000, hostOut, 80, 9, ""), queryOf(8, boxOut, hostOut, 40000, 9, ""),
	} {
		keepsStill(t, "nobody has sent that", x, api.Outside, tell(otherOut, q), api.ErrNone)
	}
	ticks(t, x, 29)
	carries(t, "the last tick", x, api.Outside, tell(otherOut, udpOf(boxOut, 40000, hostOut, 53, 9, "")), messageOf(otherOut, hostIn, 63, udpOf(hostIn, 5000, hostOut, 53, 9, "")))
	ticks(t, x, 1)
	keepsStill(t, "too late", x, api.Outside, tell(otherOut, udpOf(boxOut, 40000, hostOut, 53, 9, "")), api.ErrNone)
	goesOut(t, "the port is another one's", x, otherIn, 1, hostOut, 53, 40000)
	carries(t, "it goes there", x, api.Outside, tell(otherOut, udpOf(boxOut, 40000, hostOut, 53, 9, "")), messageOf(otherOut, otherIn, 63, udpOf(otherIn, 1, hostOut, 53, 9, "")))
}

// Of a query the peer has port 0, and the identifier finds the mapping, whatever kind of query is quoted.
func TestP15Queries(t *testing.T) {
	x := made(t, roomy(9))
	carries(t, "one", x, api.Inside, queryOf(8, hostIn, hostOut, 77, 64, ""), queryOf(8, boxOut, hostOut, 40000, 63, ""))
	carries(t, "two", x, api.Inside, queryOf(13, otherIn, otherOut, 77, 64, "twelve bytes"), queryOf(13, boxOut, otherOut, 40001, 63, "twelve bytes"))
	for _, kind := range []int{8, 13, 0, 14} {
		carries(t, "in, one", x, api.Outside, messageOf(otherOut, boxOut, 64, queryOf(kind, boxOut, hostOut, 40000, 9, "")), messageOf(otherOut, hostIn, 63, queryOf(kind, hostIn, hostOut, 77, 9, "")))
		carries(t, "in, two", x, api.Outside, messageOf(hostOut, boxOut, 64, queryOf(kind, boxOut, otherOut, 40001, 9, "x")), messageOf(hostOut, otherIn, 63, queryOf(kind, otherIn, otherOut, 77, 9, "x")))
		carries(t, "out, one", x, api.Inside, messageOf(hostIn, 0x08080808, 64, queryOf(kind, 0x08080808, hostIn, 77, 9, "")), messageOf(boxOut, 0x08080808, 63, queryOf(kind, 0x08080808, boxOut, 40000, 9, "")))
		carries(t, "out, two", x, api.Inside, messageOf(hostIn, hostOut, 64, queryOf(kind, hostOut, otherIn, 77, 9, "")), messageOf(boxOut, hostOut, 63, queryOf(kind, hostOut, boxOut, 40001, 9, "")))
		keepsStill(t, "another peer", x, api.Outside, messageOf(otherOut, boxOut, 64, queryOf(kind, boxOut, otherOut, 40000, 9, "")), api.ErrNone)
		keepsStill(t, "another source", x, api.Outside, messageOf(otherOut, boxOut, 64, queryOf(kind, hostIn, hostOut, 40000, 9, "")), api.ErrNone)
		keepsStill(t, "another identifier", x, api.Outside, messageOf(otherOut, boxOut, 64, queryOf(kind, boxOut, hostOut, 77, 9, "")), api.ErrNone)
		keepsStill(t, "another identifier", x, api.Inside, messageOf(hostIn, hostOut, 64, queryOf(kind, hostOut, hostIn, 40000, 9, "")), api.ErrNone)
		keepsStill(t, "another host", x, api.Inside, messageOf(hostIn, hostOut, 64, queryOf(kind, hostOut, 0x0a000007, 77, 9, "")), api.ErrNone)
		keepsStill(t, "another destination", x, api.Inside, messageOf(hostIn, otherOut, 64, queryOf(kind, hostOut, hostIn, 77, 9, "")), api.ErrNone)
		keepsStill(t, "back inside", x, api.Inside, messageOf(hostIn, boxOut, 64, queryOf(kind, boxOut, hostIn, 77, 9, "")), api.ErrNone)
		keepsStill(t, "back inside", x, api.Inside, messageOf(hostIn, boxOut, 64, queryOf(kind, boxOut, hostIn, 40000, 9, "")), api.ErrNone)
	}
	// The place that is a port of UDP's has type and code of a query's.
	keepsStill(t, "UDP", x, api.Outside, messageOf(otherOut, boxOut, 64, udpOf(boxOut, 40000, hostOut, 0, 9, "")), api.ErrNone)
	c := good()
	c.Low = 0x0800
	x = made(t, c)
	carries(t, "a port like type and code", x, api.Inside, queryOf(8, hostIn, hostOut, 0x0800, 64, ""), queryOf(8, boxOut, hostOut, 0x0800, 63, ""))
	keepsStill(t, "it is none", x, api.Outside, messageOf(otherOut, boxOut, 64, queryOf(8, boxOut, hostOut, 0x0900, 9, "")), api.ErrNone)
}

func TestP15FromTheInside(t *testing.T) {
	x := made(t, roomy(9))
	goesOut(t, "one", x, hostIn, 5000, hostOut, 53, 40000)
	goesOut(t, "two", x, otherIn, 5000, hostOut, 53, 40001)
	carries(t, "TCP", x, api.Inside, tcpOf(otherIn, 6000, hostOut, 53, 64, ""), tcpOf(boxOut, 40000, hostOut, 53, 63, ""))
	// Who tells does not matter, nor whether the one that is told is a peer.
	for _, src := range []int{hostIn, otherIn, 0x0a0000ff, hostOut} {
		for _, dst := range []int{hostOut, otherOut, 0x08080808, hostIn} {
			carries(t, "one", x, api.Inside, messageOf(src, dst, 64, udpOf(dst, 9, hostIn, 5000, 9, "")), messageOf(boxOut, dst, 63, udpOf(dst, 9, boxOut, 40000, 9, "")))
			carries(t, "two", x, api.Inside, messageOf(src, dst, 64, udpOf(dst, 0, otherIn, 5000, 9, "")), messageOf(boxOut, dst, 63, udpOf(dst, 0, boxOut, 40001, 9, "")))
			carries(t, "TCP", x, api.Inside, messageOf(src, dst, 64, tcpOf(dst, 9, otherIn, 6000, 9, "")), messageOf(boxOut, dst, 63, tcpOf(dst, 9, boxOut, 40000, 9, "")))
		}
	}
	for _, q := range []string{
		udpOf(otherOut, 53, hostIn, 5000, 9, ""), udpOf(hostOut+1, 53, hostIn, 5000, 9, ""), udpOf(boxOut, 53, hostIn, 5000, 9, ""),
		udpOf(hostOut, 53, hostIn, 5001, 9, ""), udpOf(hostOut, 53, hostIn, 40000, 9, ""), udpOf(hostOut, 53, hostIn, 0, 9, ""), udpOf(hostOut, 53, hostIn, 6000, 9, ""),
		udpOf(hostOut, 53, 0x0a000007, 5000, 9, ""), udpOf(hostOut, 53, boxOut, 40000, 9, ""), udpOf(hostOut, 53, boxOut, 5000, 9, ""), udpOf(hostOut, 53, 0, 0, 9, ""),
		udpOf(hostOut, 5000, hostIn, 53, 9, ""), udpOf(hostIn, 5000, hostOut, 53, 9, ""),
		tcpOf(hostOut, 53, hostIn, 5000, 9, ""), queryOf(0, hostOut, hostIn, 5000, 9, ""),
	} {
		keepsStill(t, "nobody has got that", x, api.Inside, messageOf(hostIn, hostOut, 64, q), api.ErrNone)
	}
	ticks(t, x, 29)
	carries(t, "the last tick", x, api.Inside, messageOf(hostIn, hostOut, 64, udpOf(hostOut, 9, hostIn, 5000, 9, "")), messageOf(boxOut, hostOut, 63, udpOf(hostOut, 9, boxOut, 40000, 9, "")))
	ticks(t, x, 1)
	keepsStill(t, "too late", x, api.Inside, messageOf(hostIn, hostOut, 64, udpOf(hostOut, 9, hostIn, 5000, 9, "")), api.ErrNone)
}

func TestP15BackInside(t *testing.T) {
	x := turned(t, roomy(6))
	goesOut(t, "a third one, which is no peer", x, hostIn, 5001, hostOut, 53, 40002)
	for _, src := range []int{hostIn, otherIn, hostOut} {
		for _, proto := range []int{api.UDP, api.TCP} {
			turnsBack(t, "there", x,
				messageOf(src, boxOut, 64, quoted(proto, boxOut, 40001, hostIn, 5000)),
				messageOf(boxOut, otherIn, 63, quoted(proto, otherIn, 7, boxOut, 40000)))
			turnsBack(t, "and back", x,
				messageOf(src, boxOut, 64, quoted(proto, boxOut, 40000, otherIn, 7)),
				messageOf(boxOut, hostIn, 63, quoted(proto, hostIn, 5000, boxOut, 40001)))
		}
	}
	for _, q := range []string{
		udpOf(hostIn, 40001, hostIn, 5000, 9, ""), udpOf(boxIn, 40001, hostIn, 5000, 9, ""), udpOf(otherIn, 7, hostIn, 5000, 9, ""), udpOf(hostOut, 40001, hostIn, 5000, 9, ""),
		udpOf(boxOut, 40003, hostIn, 5000, 9, ""), udpOf(boxOut, 7, hostIn, 5000, 9, ""), udpOf(boxOut, 0, hostIn, 5000, 9, ""),
		udpOf(boxOut, 40001, hostIn, 5002, 9, ""), udpOf(boxOut, 40001, hostIn, 40000, 9, ""), udpOf(boxOut, 40001, otherIn, 5000, 9, ""), udpOf(boxOut, 40001, boxOut, 40000, 9, ""),
		udpOf(boxOut, 40001, hostOut, 53, 9, ""), udpOf(boxOut, 40000, hostOut, 53, 9, ""),
		udpOf(boxOut, 40001, otherIn, 7, 9, ""), udpOf(boxOut, 40000, hostIn, 5000, 9, ""),
		udpOf(boxOut, 40001, hostIn, 5001, 9, ""), udpOf(boxOut, 40002, hostIn, 5000, 9, ""), tcpOf(boxOut, 40002, hostIn, 5000, 9, ""),
		queryOf(8, boxOut, hostIn, 40000, 9, ""), queryOf(8, boxOut, hostIn, 5000, 9, ""), queryOf(0, boxOut, hostIn, 5000, 9, ""),
	} {
		keepsStill(t, "that has not gone back", x, api.Inside, messageOf(hostIn, boxOut, 64, q), api.ErrNone)
	}
	keepsStill(t, "from the outside it is to somebody else", x, api.Outside, messageOf(hostOut, boxOut, 64, udpOf(boxOut, 40001, hostIn, 5000, 9, "")), api.ErrNone)
	keepsStill(t, "another destination", x, api.Inside, messageOf(hostIn, hostOut, 64, udpOf(boxOut, 40001, hostIn, 5000, 9, "")), api.ErrNone)
	keepsStill(t, "the box's address inside", x, api.Inside, messageOf(hostIn, boxIn, 64, udpOf(boxOut, 40001, hostIn, 5000, 9, "")), api.ErrAddress)
	goesBack(t, "to itself", x, hostIn, 5000, 40000, 40000, hostIn, 5000)
	turnsBack(t, "about what it sent to itself", x,
		messageOf(hostIn, boxOut, 64, udpOf(boxOut, 40000, hostIn, 5000, 9, "")),
		messageOf(boxOut, hostIn, 63, udpOf(hostIn, 5000, boxOut, 40000, 9, "")))
}

// From the outside a message may tell of what went to the box's own address, as if it had been seen there.
func TestP15FromTheOutsideAboutWhatWentBack(t *testing.T) {
	x := turned(t, roomy(6))
	carries(t, "a peer like others", x, api.Outside,
		messageOf(otherOut, boxOut, 64, udpOf(boxOut, 40001, boxOut, 40000, 9, "")),
		messageOf(otherOut, otherIn, 63, udpOf(otherIn, 7, boxOut, 40000, 9, "")))
}

// Each of the two mappings must live.
func TestP15BackInsideAtTheEnd(t *testing.T) {
	for older := range 2 {
		x := turned(t, roomy(5))
		ticks(t, x, 1)
		if older == 0 {
			goesBack(t, "the second lives on", x, otherIn, 7, 40000, 40001, hostIn, 5000)
		} else {
			goesBack(t, "the first lives on", x, hostIn, 5000, 40001, 40000, otherIn, 7)
		}
		f := messageOf(hostIn, boxOut, 64, udpOf(boxOut, 40001, hostIn, 5000, 9, ""))
		ticks(t, x, 28)
		turnsBack(t, "the last tick", x, f, messageOf(boxOut, otherIn, 63, udpOf(otherIn, 7, boxOut, 40000, 9, "")))
		ticks(t, x, 1)
		keepsStill(t, "one is gone", x, api.Inside, f, api.ErrNone)
		ticks(t, x, 1)
		keepsStill(t, "both are gone", x, api.Inside, f, api.ErrNone)
	}
}

// A message may be too long under way, or too long; the box does not tell of that.
func TestP15LateOrTooBig(t *testing.T) {
	text := strings.Repeat("x", 100)
	for _, mtus := range [][2]int{{100, 120}, {120, 100}} {
		c := wordy(5)
		c.InMTU = mtus[0]
		c.OutMTU = mtus[1]
		x := turned(t, c)
		for _, way := range []struct {
			side, src, dst int
			quote          string
			to             int
			outSrc, outDst int
			want           string
		}{
			{api.Outside, otherOut, boxOut, udpOf(boxOut, 40000, hostOut, 53, 9, text), api.Inside, otherOut, hostIn, udpOf(hostIn, 5000, hostOut, 53, 9, text)},
			{api.Inside, hostIn, hostOut, udpOf(hostOut, 53, hostIn, 5000, 9, text), api.Outside, boxOut, hostOut, udpOf(hostOut, 53, boxOut, 40000, 9, text)},
			{api.Inside, hostIn, boxOut, udpOf(boxOut, 40001, hostIn, 5000, 9, text), api.Inside, boxOut, otherIn, udpOf(otherIn, 7, boxOut, 40000, 9, text)},
		} {
			room := mtus[way.to] - 28
			for ttl := range 2 {
				keepsStill(t, "too long under way", x, way.side, messageOf(way.src, way.dst, ttl, way.quote[:28]), api.ErrTTL)
				keepsStill(t, "both", x, way.side, messageOf(way.src, way.dst, ttl, way.quote), api.ErrTTL)
			}
			f := messageOf(way.src, way.dst, 2, way.quote[:room+1])
			keepsStill(t, "a byte too long", x, way.side, f, api.ErrBig)
			keepsStill(t, "it may be cut", x, way.side, cuttable(f), api.ErrBig)
			comesOut(t, "as long as may be", x, way.side, messageOf(way.src, way.dst, 2, way.quote[:room])+"tail", way.to, messageOf(way.outSrc, way.outDst, 1, way.want[:room])+"tail")
			none := with(way.quote, 12, long(0x09090909))
			keepsStill(t, "none, TTL, length", x, way.side, messageOf(way.src, way.dst, 1, none), api.ErrNone)
			keepsStill(t, "none, length", x, way.side, messageOf(way.src, way.dst, 64, none), api.ErrNone)
		}
	}
}

// A box without room carries messages all the same, as they need no mapping of their own.
func TestP15NothingIsFull(t *testing.T) {
	x := made(t, roomy(1))
	for i := range 4 {
		goesOut(t, "a peer", x, hostIn, 5000, hostOut, 50+i, 40000)
	}
	isFull(t, "no peer more", x, hostIn, 5000, hostOut, 54)
	carries(t, "from the outside", x, api.Outside, messageOf(otherOut, boxOut, 64, udpOf(boxOut, 40000, hostOut, 53, 9, "")), messageOf(otherOut, hostIn, 63, udpOf(hostIn, 5000, hostOut, 53, 9, "")))
	carries(t, "from the inside", x, api.Inside, messageOf(otherIn, otherOut, 64, udpOf(otherOut, 9, hostIn, 5000, 9, "")), messageOf(boxOut, otherOut, 63, udpOf(otherOut, 9, boxOut, 40000, 9, "")))
	lists(t, "no room", x, api.Mapping{Proto: 17, Addr: hostIn, Port: 5000, External: 40000, Left: 30, Peers: 4})
}
