package natbox_test

import (
	"testing"

	"natbox/api"
	"natbox/natbox"
)

// bucket: a box with so many tokens at first, and so many more with each tick.
func bucket(t *testing.T, burst, rate int) *natbox.Box {
	t.Helper()
	c := good()
	c.Burst = burst
	c.Rate = rate
	return made(t, c)
}

// late: a frame of which the box tells, and what it tells.
func late() (f, message string) {
	f = udpOf(hostIn, 5000, hostOut, 53, 1, "abcd")
	return f, own(boxIn, 11, 0, 0, f)
}

func TestP13AMessageTakesAToken(t *testing.T) {
	f, message := late()
	for _, burst := range []int{0, 1, 2, 7, api.MaxBucket} {
		for _, rate := range []int{0, 1, api.MaxBucket} {
			x := bucket(t, burst, rate)
			for i := range burst {
				hasTokens(t, "tokens", x, burst-i)
				tells(t, "a token", x, api.Inside, f, api.ErrTTL, message)
			}
			for range 3 {
				hasTokens(t, "no token", x, 0)
				keepsStill(t, "no token", x, api.Inside, f, api.ErrTTL)
			}
		}
	}
}

// Both sides, and all errors, take from the same tokens.
func TestP13TheSameTokens(t *testing.T) {
	c := wordy(1)
	c.Burst = 4
	c.Rate = 0
	x := made(t, c)
	goesOut(t, "a mapping", x, hostIn, 5000, hostOut, 53, 40000)
	full := tcpOf(hostIn, 5000, hostOut, 80, 64, "")
	big := udpOf(hostIn, 5000, hostOut, 53, 64, string(make([]byte, 200)))
	old := udpOf(hostOut, 53, boxOut, 40000, 1, "")
	tells(t, "ErrFull", x, api.Inside, full, api.ErrFull, own(boxIn, 3, 3, 0, full))
	tells(t, "ErrBig", x, api.Inside, big, api.ErrBig, own(boxIn, 3, 4, 100, big))
	tells(t, "ErrTTL from the outside", x, api.Outside, old, api.ErrTTL, own(boxOut, 11, 0, 0, old))
	goesOut(t, "what goes out takes none", x, hostIn, 5000, hostOut, 53, 40000)
	carries(t, "nor does what comes in", x, api.Outside, udpOf(hostOut, 53, boxOut, 40000, 64, ""), udpOf(hostOut, 53, hostIn, 5000, 63, ""))
	keepsStill(t, "nor does what may be cut", x, api.Inside, cuttable(big), api.ErrBig)
	hasTokens(t, "three messages", x, 1)
	tells(t, "the last one", x, api.Inside, full, api.ErrFull, own(boxIn, 3, 3, 0, full))
	keepsStill(t, "ErrFull", x, api.Inside, full, api.ErrFull)
	keepsStill(t, "ErrBig", x, api.Inside, big, api.ErrBig)
	keepsStill(t, "ErrTTL from the outside", x, api.Outside, old, api.ErrTTL)
	ticks(t, x, 20)
	keepsStill(t, "Rate 0", x, api.Inside, full, api.ErrFull)
}

func TestP11TicksBringTokens(t *testing.T) {
	f, message := late()
	for _, c := range []struct{ burst, rate, had, n, want int }{
		{2, 1, 0, 1, 1}, {2, 1, 1, 1, 2}, {2, 1, 0, 2, 2}, {2, 1, 0, 3, 2}, {2, 1, 1, 0, 1},
		{10, 3, 0, 1, 3}, {10, 3, 0, 3, 9}, {10, 3, 0, 4, 10}, {10, 3, 9, 1, 10}, {10, 3, 2, 2, 8},
		{5, 0, 2, api.MaxTick, 2}, {100, 100, 0, 1, 100}, {100, 100, 0, api.MaxTick, 100}, {0, 100, 0, 1, 0}, {100, 99, 0, 1, 99},
	} {
		x := bucket(t, c.burst, c.rate)
		for range c.burst - c.had {
			tells(t, "a token less", x, api.Inside, f, api.ErrTTL, message)
		}
		hasTokens(t, "ahead of the ticks", x, c.had)
		ticks(t, x, c.n)
		hasTokens(t, "behind the ticks", x, c.want)
		for _, n := range []int{-1, api.MaxTick + 1} {
			if e := x.Tick(n); e != api.ErrTime {
				t.Errorf("Tick(%d) = %d", n, e)
			}
		}
		hasTokens(t, "ticks that cannot be", x, c.want)
		for range c.want {
			tells(t, "as many messages as tokens", x, api.Inside, f, api.ErrTTL, message)
		}
		keepsStill(t, "and no more", x, api.Inside, f, api.ErrTTL)
	}
}

// However the frames come, in any T ticks that follow one another there are no more than Burst + T times Rate messages.
func TestP13NotTooOften(t *testing.T) {
	f, _ := late()
	d := dice{37}
	for range 60 {
		burst := d.below(6)
		rate := d.below(4)
		x := bucket(t, burst, rate)
		told := []int{0} // behind each tick so many messages
		all := 0
		for len(told) < 40 {
			for range d.below(9) * d.below(3) {
				if x.Frame(api.Inside, f).Frame != "" {
					told[len(told)-1]++
					all++
				}
			}
			n := d.below(4)
			ticks(t, x, n)
			told = append(told, make([]int, n)...)
		}
		for from := range told {
			sum := 0
			for to := from; to < len(told); to++ {
				sum += told[to]
				if sum > burst+(to-from)*rate {
					t.Fatalf("Burst %d, Rate %d: %d messages in %d ticks", burst, rate, sum, to-from)
				}
			}
		}
		if all == 0 && burst > 0 {
			t.Fatalf("Burst %d, Rate %d: no message", burst, rate)
		}
	}
}

// The tokens of one box are not those of another.
func TestP13EachBoxItsOwn(t *testing.T) {
	f, message := late()
	a := bucket(t, 2, 1)
	b := bucket(t, 2, 1)
	tells(t, "the first box", a, api.Inside, f, api.ErrTTL, message)
	hasTokens(t, "the second box", b, 2)
	tells(t, "the second box", b, api.Inside, f, api.ErrTTL, message)
	tells(t, "the second box", b, api.Inside, f, api.ErrTTL, message)
	hasTokens(t, "the first box", a, 1)
	ticks(t, a, 1)
	hasTokens(t, "the second box", b, 0)
}
