package natbox_test

import (
	"strings"
	"testing"

	"natbox/api"
	"natbox/natbox"
)

// mapped: a box with a mapping of each protocol for port 5000 inside, external port 40000.
func mapped(t *testing.T, c api.Config) *natbox.Box {
	t.Helper()
	x := made(t, c)
	goesOut(t, "UDP", x, hostIn, 5000, hostOut, 53, 40000)
	carries(t, "TCP", x, api.Inside, tcpOf(hostIn, 5000, hostOut, 53, 64, ""), tcpOf(boxOut, 40000, hostOut, 53, 63, ""))
	carries(t, "a request", x, api.Inside, queryOf(8, hostIn, hostOut, 5000, 64, ""), queryOf(8, boxOut, hostOut, 40000, 63, ""))
	return x
}

// wrapped: a body in a header of which all that the box does not look at is set, and a tail.
func wrapped(src, dst, ttl, proto int, options, body, tail string) string {
	f := frame(src, dst, ttl, proto, options, body)
	f = with(f, 1, "\xb8")
	f = with(f, 4, "\xab\xcd\xc0\x00")
	return sealHeader(f) + tail
}

func TestP10EveryByteElse(t *testing.T) {
	x := mapped(t, roomy(3))
	d := dice{11}
	for range 500 {
		options := d.text(4 * d.below(11))
		tail := d.text(d.below(3) * d.below(9))
		text := d.text(d.below(40))
		fill := d.text(d.below(2) * d.below(7))
		ttl := 2 + d.below(254)
		units := 5 + d.below(len(text)/4+1)
		if units > 15 {
			units = 15
		}
		out := func(proto int, in, out string) {
			t.Helper()
			carries(t, "out", x, api.Inside, wrapped(hostIn, hostOut, ttl, proto, options, in, tail), wrapped(boxOut, hostOut, ttl-1, proto, options, out, tail))
		}
		in := func(proto int, in, out string) {
			t.Helper()
			carries(t, "in", x, api.Outside, wrapped(hostOut, boxOut, ttl, proto, options, in, tail), wrapped(hostOut, hostIn, ttl-1, proto, options, out, tail))
		}
		out(api.UDP, udpBody(hostIn, 5000, hostOut, 53, text, fill), udpBody(boxOut, 40000, hostOut, 53, text, fill))
		in(api.UDP, udpBody(hostOut, 53, boxOut, 40000, text, fill), udpBody(hostOut, 53, hostIn, 5000, text, fill))
		out(api.TCP, tcpBody(hostIn, 5000, hostOut, 53, units, text), tcpBody(boxOut, 40000, hostOut, 53, units, text))
		in(api.TCP, tcpBody(hostOut, 53, boxOut, 40000, units, text), tcpBody(hostOut, 53, hostIn, 5000, units, text))
		out(api.ICMP, icmpBody(8, 0, word(5000)+"\x12\x34"+text), icmpBody(8, 0, word(40000)+"\x12\x34"+text))
		in(api.ICMP, icmpBody(0, 0, word(40000)+"\x12\x34"+text), icmpBody(0, 0, word(5000)+"\x12\x34"+text))
	}
}

func TestP10NoUDPChecksum(t *testing.T) {
	x := mapped(t, roomy(3))
	bare := func(f string) string { return with(f, 26, "\x00\x00") }
	carries(t, "out", x, api.Inside, bare(udpOf(hostIn, 5000, hostOut, 53, 64, "abc")), bare(udpOf(boxOut, 40000, hostOut, 53, 63, "abc")))
	carries(t, "in", x, api.Outside, bare(udpOf(hostOut, 53, boxOut, 40000, 64, "abc")), bare(udpOf(hostOut, 53, hostIn, 5000, 63, "abc")))
}

// Where a checksum comes out at one of its two noughts it must be the one that holds.
func TestP10ChecksumsAtNought(t *testing.T) {
	x := mapped(t, roomy(3))
	nought := carried(ahead(boxOut, hostOut, api.UDP, 10) + word(40000) + word(53) + word(10))
	want := udpOf(boxOut, 40000, hostOut, 53, 63, word(nought))
	if wordAt(want, 26) != 65535 {
		t.Fatalf("UDP's checksum is %d, not 65535", wordAt(want, 26))
	}
	carries(t, "UDP", x, api.Inside, udpOf(hostIn, 5000, hostOut, 53, 64, word(nought)), want)
	zero := tcpOf(boxOut, 40000, hostOut, 53, 63, "\x00\x00")
	nought = wordAt(zero, 36)
	want = tcpOf(boxOut, 40000, hostOut, 53, 63, word(nought))
	if wordAt(want, 36) != 0 {
		t.Fatalf("TCP's checksum is %d, not 0", wordAt(want, 36))
	}
	carries(t, "TCP", x, api.Inside, tcpOf(hostIn, 5000, hostOut, 53, 64, word(nought)), want)
	plain := udpOf(boxOut, 40000, hostOut, 53, 63, "")
	id := wordAt(plain, 4) + wordAt(plain, 10)
	want = sealHeader(with(plain, 4, word(id)))
	if wordAt(want, 10) != 0 {
		t.Fatalf("the header's checksum is %d, not 0", wordAt(want, 10))
	}
	carries(t, "a header", x, api.Inside, sealHeader(with(udpOf(hostIn, 5000, hostOut, 53, 64, ""), 4, word(id))), want)
}

// Of noughts alone the checksum is 65535, which no change word by word from another would give.
func TestP10AReplyOfNoughts(t *testing.T) {
	x := made(t, good())
	carries(t, "a request with identifier 0", x, api.Inside, queryOf(8, hostIn, hostOut, 0, 64, ""), queryOf(8, boxOut, hostOut, 40000, 63, ""))
	in := frame(hostOut, boxOut, 64, api.ICMP, "", icmpBody(0, 0, word(40000)+strings.Repeat("\x00", 10)))
	out := frame(hostOut, hostIn, 63, api.ICMP, "", "\x00\x00\xff\xff"+strings.Repeat("\x00", 12))
	carries(t, "a reply", x, api.Outside, in, out)
}
