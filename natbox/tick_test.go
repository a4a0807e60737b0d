package natbox_test

import (
	"math"
	"testing"

	"natbox/api"
)

func TestP11TicksThatCannotBe(t *testing.T) {
	x := made(t, good())
	goesOut(t, "a mapping", x, hostIn, 5000, hostOut, 53, 40000)
	for _, n := range []int{-1, -30, api.MaxTick + 1, 1 << 32, math.MinInt, math.MaxInt} {
		if e := x.Tick(n); e != api.ErrTime {
			t.Errorf("Tick(%d) = %d", n, e)
		}
	}
	ticks(t, x, 0)
	lists(t, "no tick", x, api.Mapping{Proto: 17, Addr: hostIn, Port: 5000, External: 40000, Left: 30, Peers: 1})
	ticks(t, x, api.MaxTick)
	lists(t, "MaxTick", x)
}

func TestP11TheEndOfTime(t *testing.T) {
	c := good()
	c.UDPIdle = api.MaxIdle
	x := made(t, c)
	for range api.MaxTime / api.MaxTick {
		if x.Tick(api.MaxTick) != api.OK {
			t.Fatal("time ends too early")
		}
	}
	rest := api.MaxTime % api.MaxTick
	goesOut(t, "a mapping", x, hostIn, 5000, hostOut, 53, 40000)
	left := func(why string, n int) {
		t.Helper()
		lists(t, why, x, api.Mapping{Proto: 17, Addr: hostIn, Port: 5000, External: 40000, Left: n, Peers: 1})
	}
	for _, n := range []int{rest + 1, api.MaxTick} {
		if e := x.Tick(n); e != api.ErrTime {
			t.Errorf("Tick(%d) with %d ticks to go = %d", n, rest, e)
		}
	}
	left("too many ticks", api.MaxIdle)
	ticks(t, x, rest-1)
	if e := x.Tick(2); e != api.ErrTime {
		t.Errorf("Tick(2) with one tick to go = %d", e)
	}
	ticks(t, x, 1)
	left("the last tick", api.MaxIdle-rest)
	if e := x.Tick(1); e != api.ErrTime {
		t.Errorf("Tick(1) at the end = %d", e)
	}
	ticks(t, x, 0)
	left("the end", api.MaxIdle-rest)
	goesOut(t, "frames go on", x, hostIn, 5000, hostOut, 53, 40000)
	left("the end", api.MaxIdle)
}

func TestP11TheDocumentsTicks(t *testing.T) {
	x := made(t, good())
	carries(t, "the first frame", x, api.Inside, udp("abcd"), udpOf(boxOut, 40000, hostOut, 53, 63, "abcd"))
	ticks(t, x, 29)
	lists(t, "29 ticks", x, api.Mapping{Proto: 17, Addr: hostIn, Port: 5000, External: 40000, Left: 1, Peers: 1})
	ticks(t, x, 1)
	lists(t, "30 ticks", x)
	refuses(t, "from then on", x, api.Outside, udpOf(hostOut, 53, boxOut, 40000, 64, ""), api.ErrNone)
}

// Many ticks at once, and more of them than a mapping has left, are as many single ones.
func TestP11OneAfterTheOther(t *testing.T) {
	d := dice{17}
	for range 50 {
		c := roomy(9)
		c.UDPIdle = 1 + d.below(9)
		c.TCPIdle = 1 + d.below(9)
		a := made(t, c)
		b := made(t, c)
		for range 40 {
			f := udpOf(hostIn, d.below(5), hostOut, d.below(3), 64, "")
			if d.below(2) == 0 {
				f = tcpOf(hostIn, d.below(5), hostOut, d.below(3), 64, "")
			}
			if r, s := a.Frame(api.Inside, f), b.Frame(api.Inside, f); r != s {
				t.Fatalf("%v and %v", r, s)
			}
			n := d.below(6)
			ticks(t, a, n)
			for range n {
				ticks(t, b, 1)
			}
			lists(t, "one after the other", a, list(t, b)...)
		}
	}
}

func TestP11TheOrderOfMappings(t *testing.T) {
	x := made(t, roomy(9))
	goesOut(t, "UDP", x, hostIn, 40007, hostOut, 53, 40007)
	carries(t, "a request", x, api.Inside, queryOf(8, otherIn, hostOut, 40008, 64, ""), queryOf(8, boxOut, hostOut, 40008, 63, ""))
	goesOut(t, "UDP", x, hostIn, 40002, hostOut, 53, 40002)
	carries(t, "TCP", x, api.Inside, tcpOf(otherIn, 40009, hostOut, 80, 64, ""), tcpOf(boxOut, 40009, hostOut, 80, 63, ""))
	carries(t, "TCP", x, api.Inside, tcpOf(hostIn, 40001, hostOut, 80, 64, ""), tcpOf(boxOut, 40001, hostOut, 80, 63, ""))
	carries(t, "a request", x, api.Inside, queryOf(8, hostIn, hostOut, 3, 64, ""), queryOf(8, boxOut, hostOut, 40000, 63, ""))
	goesOut(t, "UDP", x, otherIn, 1, hostOut, 53, 40000)
	goesOut(t, "UDP", x, hostIn, 40005, hostOut, 53, 40005)
	lists(t, "order", x,
		api.Mapping{Proto: 1, Addr: hostIn, Port: 3, External: 40000, Left: 10, Peers: 1},
		api.Mapping{Proto: 1, Addr: otherIn, Port: 40008, External: 40008, Left: 10, Peers: 1},
		api.Mapping{Proto: 6, Addr: hostIn, Port: 40001, External: 40001, Left: 60, Peers: 1},
		api.Mapping{Proto: 6, Addr: otherIn, Port: 40009, External: 40009, Left: 60, Peers: 1},
		api.Mapping{Proto: 17, Addr: otherIn, Port: 1, External: 40000, Left: 30, Peers: 1},
		api.Mapping{Proto: 17, Addr: hostIn, Port: 40002, External: 40002, Left: 30, Peers: 1},
		api.Mapping{Proto: 17, Addr: hostIn, Port: 40005, External: 40005, Left: 30, Peers: 1},
		api.Mapping{Proto: 17, Addr: hostIn, Port: 40007, External: 40007, Left: 30, Peers: 1})
}

func TestP11NoMoreTokensThanBurst(t *testing.T) {
	for _, c := range []struct{ burst, rate int }{{0, 0}, {0, 100}, {2, 1}, {100, 100}, {7, 0}} {
		config := good()
		config.Burst = c.burst
		config.Rate = c.rate
		x := made(t, config)
		for _, n := range []int{0, 1, 2, api.MaxTick} {
			ticks(t, x, n)
			if x.Tokens() != c.burst {
				t.Errorf("burst %d, rate %d: %d tokens", c.burst, c.rate, x.Tokens())
			}
		}
	}
}
