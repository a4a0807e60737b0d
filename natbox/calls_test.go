package natbox_test

import (
	"math"
	"strings"
	"testing"

	"natbox/api"
	"natbox/natbox"
)

// samples: frames of each kind from the inside, answers from the outside, what goes back inside, and error messages about all of them.
func samples() []string {
	return []string{
		udpOf(hostOut, 53, boxOut, 40000, 64, "answer"), tcpOf(hostOut, 80, boxOut, 40000, 64, "answer"), queryOf(0, hostOut, boxOut, 40000, 64, "answer"),
		messageOf(otherOut, boxOut, 64, udpOf(boxOut, 40000, hostOut, 53, 63, "abcd")), udpOf(hostIn, 5000, boxOut, 40000, 64, "abcd"),
		messageOf(hostIn, hostOut, 64, tcpOf(hostOut, 53, hostIn, 5000, 63, "")[:37]), messageOf(hostIn, boxOut, 64, tcpOf(boxOut, 40001, hostIn, 5000, 63, "")),
		messageOf(otherOut, boxOut, 64, queryOf(8, boxOut, hostOut, 40000, 63, "")) + "tail",
		udp("abcd"), tcp("hello"), icmp(8, 0, "\x00\x4d\x00\x01ping"), icmp(13, 0, strings.Repeat("s", 16)),
		message(3, 1, udp("abcd")), message(11, 0, tcp("hello")), message(12, 0, icmp(8, 0, "\x00\x4d\x00\x01")),
		frame(hostIn, hostOut, 64, api.UDP, strings.Repeat("\x01", 40), udpBody(hostIn, 1, hostOut, 2, "x", "fill")) + "tail",
	}
}

// sealed: the frame with all checksums as they must be, where it has room for them, so that Check looks further.
func sealed(f string) string {
	h := int(f[0]&15) * 4
	total := wordAt(f, 2)
	if h >= 20 && h+4 <= total && total <= len(f) && f[9] == api.ICMP {
		f = f[:h] + icmpBody(int(f[h]), int(f[h+1]), f[h+4:total]) + f[total:]
	}
	return sealHeader(f)
}

// lasting: a box with mappings of each protocol that stay, and with messages that do not end.
func lasting(t *testing.T) *natbox.Box {
	t.Helper()
	c := roomy(api.MaxCapacity)
	c.UDPIdle = api.MaxIdle
	c.TCPIdle = api.MaxIdle
	c.QueryIdle = api.MaxIdle
	c.Burst = api.MaxBucket
	c.Rate = api.MaxBucket
	return turned(t, c)
}

// enters calls all that takes a string; a panic ends the test. What comes out is a frame, however odd what came in.
func enters(t *testing.T, x *natbox.Box, s string) {
	t.Helper()
	natbox.Sum(s)
	e := natbox.Check(s)
	for side := range 2 {
		if x.Tokens() == 0 {
			ticks(t, x, 1)
		}
		r := x.Frame(side, s)
		if e != api.OK && r != (api.Reply{Err: e}) {
			t.Fatalf("Check(%.80q) = %d, Frame = %v", s, e, r)
		}
		if r.Frame != "" && natbox.Check(r.Frame) != api.OK {
			t.Fatalf("Frame(%d, %.80q): out comes %.80q, which is no frame", side, s, r.Frame)
		}
	}
}

func TestP1EveryString(t *testing.T) {
	x := lasting(t)
	d := dice{3}
	for n := range 200 {
		enters(t, x, d.text(n))
		enters(t, x, strings.Repeat("\x45", n))
	}
	for _, n := range []int{api.MaxFrame - 1, api.MaxFrame, api.MaxFrame + 1, 1 << 23} {
		enters(t, x, strings.Repeat("\x00", n))
		enters(t, x, udp("abcd")+strings.Repeat("\xff", n-32))
	}
}

func TestP1EveryFrameCutOrBent(t *testing.T) {
	x := lasting(t)
	for _, f := range samples() {
		if e := natbox.Check(f); e != api.OK {
			t.Errorf("Check(%q) = %d", f, e)
		}
		for n := range len(f) {
			enters(t, x, f[:n])
			if n >= 20 {
				enters(t, x, sealHeader(with(f[:n], 2, word(n))))
				enters(t, x, sealed(with(f[:n], 2, word(n))))
			}
			for b := range 256 {
				g := with(f, n, string([]byte{byte(b)}))
				enters(t, x, g)
				enters(t, x, sealed(g))
			}
		}
	}
}

func TestP1EveryNumber(t *testing.T) {
	numbers := []int{math.MinInt, math.MinInt + 1, -1 << 32, -65536, -1, 0, 1, 65535, 65536, 1 << 31, 1 << 32, 1 << 40, math.MaxInt - 1, math.MaxInt}
	x := lasting(t)
	for _, a := range numbers {
		for _, b := range numbers {
			for _, c := range numbers {
				natbox.Fix(a, b, c)
				natbox.New(api.Config{InAddr: a, OutAddr: b, Low: c, High: a, Capacity: b, InMTU: c, OutMTU: a, UDPIdle: b, TCPIdle: c, QueryIdle: a, Burst: b, Rate: c})
			}
		}
		x.Frame(a, udp("abcd"))
		x.Mapping(a)
		x.Tick(a)
	}
}

func TestP2TheArgumentsAlone(t *testing.T) {
	type answer struct {
		sum, fix int
		check    api.Errno
	}
	ask := func(s string) answer {
		return answer{natbox.Sum(s), natbox.Fix(len(s), 5, 77), natbox.Check(s)}
	}
	texts := append(samples(), "", "a", udp("abcd")[:19], with(udp("abcd"), 10, "\x00\x00"), strings.Repeat("x", api.MaxFrame+1))
	first := []answer{}
	for _, s := range texts {
		first = append(first, ask(s))
	}
	x, _ := natbox.New(good())
	for i := len(texts) - 1; i >= 0; i-- {
		x.Frame(api.Inside, texts[i])
		x.Tick(1)
		if again := ask(texts[i]); again != first[i] {
			t.Errorf("%.40q: %v, and then %v", texts[i], first[i], again)
		}
	}
}

func TestP2BoxesDoNotDisturbOneAnother(t *testing.T) {
	c := good()
	c.Burst = 7
	a, _ := natbox.New(c)
	c.Burst = 0
	b, _ := natbox.New(c)
	c.Burst = 101
	if none, e := natbox.New(c); none != nil || e != api.ErrConfig {
		t.Errorf("New with 101 tokens: %v, %d", none, e)
	}
	if a.Tokens() != 7 || b.Tokens() != 0 || a.Live() != 0 || b.Live() != 0 {
		t.Errorf("tokens %d and %d, want 7 and 0; mappings %d and %d, want none", a.Tokens(), b.Tokens(), a.Live(), b.Live())
	}
}
