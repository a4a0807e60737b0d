package natbox

import (
	"testing"

	"natbox/api"
)

// So far nothing takes tokens: that ticks bring them can be seen from within alone.
func TestP11TicksBringTokens(t *testing.T) {
	for _, c := range []struct{ burst, rate, had, n, want int }{
		{2, 1, 0, 1, 1}, {2, 1, 1, 1, 2}, {2, 1, 0, 2, 2}, {2, 1, 0, 3, 2}, {2, 1, 1, 0, 1},
		{10, 3, 0, 1, 3}, {10, 3, 0, 3, 9}, {10, 3, 0, 4, 10}, {10, 3, 9, 1, 10}, {10, 3, 2, 2, 8},
		{5, 0, 2, api.MaxTick, 2}, {100, 100, 0, 1, 100}, {100, 100, 0, api.MaxTick, 100}, {0, 100, 0, 1, 0},
	} {
		x, e := New(api.Config{InAddr: 0x0a000001, OutAddr: 0xcb007109, Low: 1, High: 9, Capacity: 1, InMTU: 100, OutMTU: 100, UDPIdle: 1, TCPIdle: 1, QueryIdle: 1, Burst: c.burst, Rate: c.rate})
		if e != api.OK {
			t.Fatal(e)
		}
		x.tokens = c.had
		if e := x.Tick(c.n); e != api.OK || x.Tokens() != c.want {
			t.Errorf("%v: error %d, %d tokens", c, e, x.Tokens())
		}
		if e := x.Tick(-1); e != api.ErrTime || x.Tokens() != c.want {
			t.Errorf("%v: Tick(-1) = %d, %d tokens", c, e, x.Tokens())
		}
	}
}
