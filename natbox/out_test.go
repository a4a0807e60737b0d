package natbox_test

import (
	"testing"

	"natbox/api"
	"natbox/natbox"
)

// goesOut: a frame of UDP without text goes out from an external port.
func goesOut(t *testing.T, why string, x *natbox.Box, src, sport, dst, dport, external int) {
	t.Helper()
	carries(t, why, x, api.Inside, udpOf(src, sport, dst, dport, 64, ""), udpOf(boxOut, external, dst, dport, 63, ""))
}

func isFull(t *testing.T, why string, x *natbox.Box, src, sport, dst, dport int) {
	t.Helper()
	before := list(t, x)
	refuses(t, why, x, api.Inside, udpOf(src, sport, dst, dport, 64, ""), api.ErrFull)
	lists(t, why, x, before...)
}

func TestP8OneMappingForEachEndpoint(t *testing.T) {
	x := made(t, roomy(9))
	goesOut(t, "an endpoint", x, hostIn, 5000, hostOut, 53, 40000)
	goesOut(t, "the same one", x, hostIn, 5000, hostOut, 53, 40000)
	goesOut(t, "the same one to another", x, hostIn, 5000, otherOut, 53, 40000)
	goesOut(t, "another port", x, hostIn, 5001, hostOut, 53, 40001)
	goesOut(t, "another address", x, otherIn, 5000, hostOut, 53, 40002)
	goesOut(t, "port 0", x, hostIn, 0, hostOut, 0, 40003)
	carries(t, "another protocol", x, api.Inside, tcpOf(hostIn, 5000, hostOut, 80, 64, "tcp"), tcpOf(boxOut, 40000, hostOut, 80, 63, "tcp"))
	carries(t, "a request", x, api.Inside, queryOf(8, hostIn, hostOut, 5000, 64, "ping"), queryOf(8, boxOut, hostOut, 40000, 63, "ping"))
	lists(t, "endpoints", x,
		api.Mapping{Proto: 1, Addr: hostIn, Port: 5000, External: 40000, Left: 10, Peers: 1},
		api.Mapping{Proto: 6, Addr: hostIn, Port: 5000, External: 40000, Left: 60, Peers: 1},
		api.Mapping{Proto: 17, Addr: hostIn, Port: 5000, External: 40000, Left: 30, Peers: 2},
		api.Mapping{Proto: 17, Addr: hostIn, Port: 5001, External: 40001, Left: 30, Peers: 1},
		api.Mapping{Proto: 17, Addr: otherIn, Port: 5000, External: 40002, Left: 30, Peers: 1},
		api.Mapping{Proto: 17, Addr: hostIn, Port: 0, External: 40003, Left: 30, Peers: 1})
}

func TestP8TheEndpointsOwnPort(t *testing.T) {
	x := made(t, roomy(20))
	goesOut(t, "High", x, hostIn, 40009, hostOut, 53, 40009)
	goesOut(t, "between", x, hostIn, 40004, hostOut, 53, 40004)
	goesOut(t, "Low", x, hostIn, 40000, hostOut, 53, 40000)
	goesOut(t, "below Low", x, hostIn, 39999, hostOut, 53, 40001)
	goesOut(t, "above High", x, hostIn, 40010, hostOut, 53, 40002)
	goesOut(t, "another's", x, otherIn, 40009, hostOut, 53, 40003)
	goesOut(t, "another's, and a gap passed over", x, otherIn, 40004, hostOut, 53, 40005)
	goesOut(t, "another's, where it is not the own", x, hostIn, 40001, hostOut, 53, 40006)
	carries(t, "another protocol's", x, api.Inside, tcpOf(otherIn, 40009, hostOut, 80, 64, ""), tcpOf(boxOut, 40009, hostOut, 80, 63, ""))
	carries(t, "an identifier", x, api.Inside, queryOf(13, otherIn, hostOut, 40009, 64, "stamps stamps"), queryOf(13, boxOut, hostOut, 40009, 63, "stamps stamps"))
}

func TestP8NoPortMore(t *testing.T) {
	c := silent(roomy(64))
	x := made(t, c)
	for i := range 10 {
		goesOut(t, "a port", x, hostIn, i, hostOut, 53, 40000+i)
	}
	isFull(t, "no port", x, hostIn, 10, hostOut, 53)
	isFull(t, "the own port is another's", x, hostIn, 40003, hostOut, 53)
	goesOut(t, "who has one", x, hostIn, 3, otherOut, 53, 40003)
	carries(t, "another protocol", x, api.Inside, tcpOf(hostIn, 10, hostOut, 80, 64, ""), tcpOf(boxOut, 40000, hostOut, 80, 63, ""))
	ticks(t, x, 29)
	goesOut(t, "it lives on", x, hostIn, 3, hostOut, 53, 40003)
	ticks(t, x, 1)
	goesOut(t, "the least one", x, hostIn, 77, hostOut, 53, 40000)
	goesOut(t, "and on", x, hostIn, 78, hostOut, 53, 40001)
	goesOut(t, "and on", x, hostIn, 79, hostOut, 53, 40002)
	goesOut(t, "one that lives is left out", x, hostIn, 80, hostOut, 53, 40004)
}

func TestP8TheRangeOfPorts(t *testing.T) {
	for _, c := range []struct{ low, high int }{{1, 1}, {65535, 65535}, {40000, 40000}} {
		config := silent(roomy(64))
		config.Low = c.low
		config.High = c.high
		x := made(t, config)
		goesOut(t, "the one port", x, hostIn, 7, hostOut, 53, c.low)
		isFull(t, "no second port", x, hostIn, 8, hostOut, 53)
		isFull(t, "no second port", x, otherIn, c.low, hostOut, 53)
		isFull(t, "nor the one above", x, otherIn, c.low+1, hostOut, 53)
		isFull(t, "nor the one below", x, otherIn, c.low-1, hostOut, 53)
	}
	config := roomy(64)
	config.Low = 1
	config.High = 65535
	x := made(t, config)
	for _, port := range []int{65535, 1, 2, 32768} {
		goesOut(t, "all ports", x, hostIn, port, hostOut, 53, port)
	}
	goesOut(t, "port 0 is none", x, hostIn, 0, hostOut, 53, 3)
}

func TestP8Capacity(t *testing.T) {
	for _, capacity := range []int{1, 2, 10, api.MaxCapacity} {
		c := silent(roomy(capacity))
		c.Low = 1000
		x := made(t, c)
		for i := range capacity {
			goesOut(t, "room", x, hostIn+i*7, 5000-i, hostOut, 53, 5000-i)
		}
		isFull(t, "no room", x, otherOut, 5000, hostOut, 53)
		refuses(t, "no room for another protocol", x, api.Inside, tcpOf(hostIn, 5000, hostOut, 80, 64, ""), api.ErrFull)
		refuses(t, "no room for a request", x, api.Inside, queryOf(8, hostIn, hostOut, 5000, 64, ""), api.ErrFull)
		goesOut(t, "who has a mapping goes on", x, hostIn, 5000, otherOut, 53, 5000)
		ticks(t, x, 29)
		isFull(t, "no room at the last tick", x, otherOut, 5000, hostOut, 53)
		ticks(t, x, 1)
		carries(t, "room again", x, api.Inside, tcpOf(hostIn, 5000, hostOut, 80, 64, ""), tcpOf(boxOut, 5000, hostOut, 80, 63, ""))
	}
}

func TestP8Peers(t *testing.T) {
	x := made(t, silent(good()))
	peers := []struct{ addr, port int }{{hostOut, 53}, {hostOut, 54}, {otherOut, 53}, {otherIn, 0}}
	for i, p := range peers {
		goesOut(t, "a peer", x, hostIn, 5000, p.addr, p.port, 40000)
		lists(t, "a peer more", x, api.Mapping{Proto: 17, Addr: hostIn, Port: 5000, External: 40000, Left: 30, Peers: i + 1})
	}
	ticks(t, x, 5)
	for _, p := range peers {
		isFull(t, "another port", x, hostIn, 5000, p.addr, p.port+100)
		isFull(t, "another address", x, hostIn, 5000, p.addr+1, p.port)
	}
	lists(t, "no peer more", x, api.Mapping{Proto: 17, Addr: hostIn, Port: 5000, External: 40000, Left: 25, Peers: 4})
	for _, p := range peers {
		goesOut(t, "a known peer", x, hostIn, 5000, p.addr, p.port, 40000)
		lists(t, "a known peer", x, api.Mapping{Proto: 17, Addr: hostIn, Port: 5000, External: 40000, Left: 30, Peers: 4})
		ticks(t, x, 1)
	}
	goesOut(t, "another mapping has its own peers", x, otherIn, 5000, hostOut+1, 9, 40001)
	ticks(t, x, 30)
	goesOut(t, "peers are forgotten", x, hostIn, 5000, hostOut, 99, 40000)
	lists(t, "peers are forgotten", x, api.Mapping{Proto: 17, Addr: hostIn, Port: 5000, External: 40000, Left: 30, Peers: 1})
}

func TestP8PeersOfQueries(t *testing.T) {
	x := made(t, silent(good()))
	send := func(kind, dst, peers int) {
		t.Helper()
		carries(t, "a request", x, api.Inside, queryOf(kind, hostIn, dst, 77, 64, "twelve bytes"), queryOf(kind, boxOut, dst, 40000, 63, "twelve bytes"))
		lists(t, "a request", x, api.Mapping{Proto: 1, Addr: hostIn, Port: 77, External: 40000, Left: 10, Peers: peers})
	}
	for i := range 4 {
		send(8, hostOut+i, i+1)
		send(13, hostOut+i, i+1)
	}
	ticks(t, x, 1)
	refuses(t, "a fifth peer", x, api.Inside, queryOf(8, hostIn, hostOut+4, 77, 64, ""), api.ErrFull)
	lists(t, "a fifth peer", x, api.Mapping{Proto: 1, Addr: hostIn, Port: 77, External: 40000, Left: 9, Peers: 4})
	send(8, hostOut+2, 4)
}

func TestP8IdleTimes(t *testing.T) {
	x := made(t, roomy(3))
	ask := func() {
		goesOut(t, "UDP", x, hostIn, 5000, hostOut, 53, 40000)
		carries(t, "TCP", x, api.Inside, tcpOf(hostIn, 5000, hostOut, 80, 64, ""), tcpOf(boxOut, 40000, hostOut, 80, 63, ""))
		carries(t, "a request", x, api.Inside, queryOf(8, hostIn, hostOut, 5000, 64, ""), queryOf(8, boxOut, hostOut, 40000, 63, ""))
	}
	told := func(why string, query, tcp, udp int) {
		t.Helper()
		lists(t, why, x,
			api.Mapping{Proto: 1, Addr: hostIn, Port: 5000, External: 40000, Left: query, Peers: 1},
			api.Mapping{Proto: 6, Addr: hostIn, Port: 5000, External: 40000, Left: tcp, Peers: 1},
			api.Mapping{Proto: 17, Addr: hostIn, Port: 5000, External: 40000, Left: udp, Peers: 1})
	}
	ask()
	told("new", 10, 60, 30)
	ticks(t, x, 9)
	told("nine ticks", 1, 51, 21)
	ask()
	told("renewed", 10, 60, 30)
}
