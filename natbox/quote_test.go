package natbox_test

import (
	"strings"
	"testing"

	"natbox/api"
	"natbox/natbox"
)

// change: a word at a place of the quote that becomes another.
type change struct{ place, now int }

// mended: what Fix makes of a checksum, reckoned for all changed words at once: what is left of 65535, and 0 of its two noughts.
func mended(check int, q string, changes []change) int {
	sum := check
	changed, noughts := false, check == 65535
	for _, c := range changes {
		old := wordAt(q, c.place)
		if old != c.now {
			sum += old - c.now
			changed = true
			noughts = noughts && old == 65535 && c.now == 0
		}
	}
	// From one nought to the other nothing is added at all.
	if !changed || noughts {
		return check
	}
	return (sum%65535 + 65535) % 65535
}

// ends: what stands in a quote as address (two words) and port of its source or its destination.
func ends(q string, destination bool, addr, port int) (words []change, ports []change) {
	place, behind := 12, 0
	if destination {
		place, behind = 16, 2
	}
	if q[9] == api.ICMP {
		behind = 4
	}
	return []change{{place, addr >> 16}, {place + 2, addr & 65535}}, []change{{int(q[0]&15)*4 + behind, port}}
}

// rewritten: the quote with its words changed and the two checksum fields mended, as far as it has them.
func rewritten(q string, words, ports []change) string {
	out := q
	all := append(append([]change{}, words...), ports...)
	for _, c := range all {
		out = with(out, c.place, word(c.now))
	}
	out = with(out, 10, word(mended(wordAt(q, 10), q, words)))
	field := int(q[0]&15)*4 + map[byte]int{api.ICMP: 2, api.TCP: 16, api.UDP: 6}[q[9]]
	if field+2 > len(q) {
		return out
	}
	check := wordAt(q, field)
	switch {
	case q[9] == api.ICMP:
		check = mended(check, q, ports)
	case q[9] == api.TCP || check != 0:
		check = mended(check, q, all)
		if q[9] == api.UDP && check == 0 {
			check = 65535
		}
	}
	return with(out, field, word(check))
}

// way: how a message goes, and what its quote's ends are and become.
type way struct {
	side, src, dst         int
	from, to               end
	outSide, outSrc, outTo int
	outFrom, outDst        end
}

// ways: all that goes through a box that is turned, for a protocol.
func ways(proto int) []way {
	l := []way{
		{api.Outside, otherOut, boxOut, end{boxOut, 40000}, end{hostOut, 53}, api.Inside, otherOut, hostIn, end{hostIn, 5000}, end{hostOut, 53}},
		{api.Inside, otherIn, otherOut, end{otherOut, 99}, end{hostIn, 5000}, api.Outside, boxOut, otherOut, end{otherOut, 99}, end{boxOut, 40000}},
	}
	if proto == api.ICMP {
		l[0].to.port, l[0].outDst.port = 40000, 5000
		l[1].from.port, l[1].outFrom.port = 5000, 40000
		return l
	}
	return append(l, way{api.Inside, hostIn, boxOut, end{boxOut, 40001}, end{hostIn, 5000}, api.Inside, boxOut, otherIn, end{otherIn, 7}, end{boxOut, 40000}})
}

// quote: what looks thrown but for what the box must find in it; so many bytes stand behind its header.
func (d *dice) quote(proto int, w way, behind int) string {
	options := d.text(4 * d.below(11))
	q := d.text(20) + options + d.text(behind)
	q = with(q, 0, string([]byte{byte(0x45 + len(options)/4)}))
	q = with(q, 6, word(d.below(8)<<13))
	q = with(q, 9, string([]byte{byte(proto)}))
	q = with(q, 12, long(w.from.addr)+long(w.to.addr))
	if d.below(4) == 0 {
		q = with(q, 10, []string{"\x00\x00", "\xff\xff"}[d.below(2)])
	}
	start := 20 + len(options)
	if proto == api.ICMP {
		q = with(q, start, string([]byte{[]byte{8, 13, 0, 14}[d.below(4)]}))
		q = with(q, start+4, word(w.from.port))
	} else {
		q = with(q, start, word(w.from.port)+word(w.to.port))
	}
	field := start + map[int]int{api.ICMP: 2, api.TCP: 16, api.UDP: 6}[proto]
	if d.below(4) == 0 && field+2 <= len(q) {
		q = with(q, field, []string{"\x00\x00", "\xff\xff"}[d.below(2)])
	}
	return q
}

// becomes: the quote as it must come out.
func (w way) becomes(q string) string {
	words, ports := ends(q, false, w.outFrom.addr, w.outFrom.port)
	more, port := ends(q, true, w.outDst.addr, w.outDst.port)
	words = append(words, more...)
	if q[9] != api.ICMP {
		ports = append(ports, port...)
	}
	return rewritten(q, words, ports)
}

func TestP16EveryByteElse(t *testing.T) {
	x := turned(t, roomy(5))
	d := dice{43}
	for range 400 {
		for _, proto := range protocols {
			for _, w := range ways(proto) {
				q := d.quote(proto, w, 8+d.below(30))
				kind := []int{3, 11, 12}[d.below(3)]
				code := d.below(256)
				hint := d.text(4)
				options := d.text(4 * d.below(11))
				tail := d.text(d.below(2) * d.below(9))
				ttl := 2 + d.below(254)
				f := wrapped(w.src, w.dst, ttl, api.ICMP, options, icmpBody(kind, code, hint+q), tail)
				want := wrapped(w.outSrc, w.outTo, ttl-1, api.ICMP, options, icmpBody(kind, code, hint+w.becomes(q)), tail)
				comesOut(t, "a quote", x, w.side, f, w.outSide, want)
			}
		}
	}
}

// What held holds again, as the host's own frame did.
func TestP16ChecksumsThatHold(t *testing.T) {
	x := turned(t, roomy(5))
	for _, proto := range protocols {
		for _, w := range ways(proto) {
			q := quoted(proto, w.from.addr, w.from.port, w.to.addr, w.to.port)
			want := quoted(proto, w.outFrom.addr, w.outFrom.port, w.outDst.addr, w.outDst.port)
			for n := 28; n <= len(q); n++ {
				cut := want[:n]
				if proto == api.TCP && n == 37 {
					cut = want[:36] + q[36:37]
				}
				comesOut(t, "cut anywhere", x, w.side, messageOf(w.src, w.dst, 64, q[:n]), w.outSide, messageOf(w.outSrc, w.outTo, 63, cut))
				comesOut(t, "the tail is no quote", x, w.side, messageOf(w.src, w.dst, 64, q[:n])+q[n:]+"more", w.outSide, messageOf(w.outSrc, w.outTo, 63, cut)+q[n:]+"more")
			}
		}
	}
}

// A quote's own lengths are not looked at, nor whether its checksums hold.
func TestP16LengthsThatCannotBe(t *testing.T) {
	x := turned(t, roomy(5))
	for _, proto := range protocols {
		for _, w := range ways(proto) {
			for _, total := range []int{0, 19, 20, 28, 35, 36, 37, 38, 65535} {
				q := with(quoted(proto, w.from.addr, w.from.port, w.to.addr, w.to.port), 2, word(total))
				if proto == api.UDP {
					q = with(q, 24, word(total))
				}
				comesOut(t, "a total length", x, w.side, messageOf(w.src, w.dst, 64, q), w.outSide, messageOf(w.outSrc, w.outTo, 63, w.becomes(q)))
			}
		}
	}
}

// The worked values of one mapping: 203.0.113.9 and 40000 become 10.0.0.5 and 5000.
func TestP16WorkedValues(t *testing.T) {
	x := mapped(t, roomy(3))
	// Of the words that change the sums part by cb00 + 7109 - 0a00 - 0005 = 13204, or 3205;
	// with the ports by 9c40 - 1388 more, 1babc, or babd; by the ports alone by 88b8.
	field := map[int]int{api.ICMP: 22, api.TCP: 36, api.UDP: 26}
	for _, c := range []struct{ proto, place, in, out int }{
		{api.UDP, 10, 5, 0x320a}, {api.UDP, 10, 0, 0x3205}, {api.UDP, 10, 0xffff, 0x3205}, {api.UDP, 10, 0xcdfa, 0}, {api.UDP, 10, 0xcdfb, 1}, {api.UDP, 10, 0xcdf9, 0xfffe},
		{api.UDP, 26, 1, 0xbabe}, {api.UDP, 26, 0, 0}, {api.UDP, 26, 0xffff, 0xbabd}, {api.UDP, 26, 0x4542, 0xffff}, {api.UDP, 26, 0x4543, 1}, {api.UDP, 26, 0x4541, 0xfffe},
		{api.TCP, 36, 1, 0xbabe}, {api.TCP, 36, 0, 0xbabd}, {api.TCP, 36, 0xffff, 0xbabd}, {api.TCP, 36, 0x4542, 0}, {api.TCP, 36, 0x4543, 1},
		{api.ICMP, 22, 1, 0x88b9}, {api.ICMP, 22, 0, 0x88b8}, {api.ICMP, 22, 0xffff, 0x88b8}, {api.ICMP, 22, 0x7747, 0}, {api.ICMP, 22, 0x7748, 1},
		{api.ICMP, 10, 5, 0x320a}, {api.TCP, 10, 0xcdfa, 0},
	} {
		if c.place != 10 && c.place != field[c.proto] {
			t.Fatalf("protocol %d has no field at %d", c.proto, c.place)
		}
		q := with(quoted(c.proto, boxOut, 40000, hostOut, 53), c.place, word(c.in))
		want := with(quoted(c.proto, hostIn, 5000, hostOut, 53), c.place, word(c.out))
		carries(t, "a worked value", x, api.Outside, messageOf(otherOut, boxOut, 64, q), messageOf(otherOut, hostIn, 63, want))
	}
}

// kept: a box whose endpoint has its own port outside, 40000, and an address that becomes another.
func kept(t *testing.T, outer, inner int) *natbox.Box {
	t.Helper()
	c := roomy(3)
	c.OutAddr = outer
	x := made(t, c)
	for _, f := range []string{udpOf(inner, 40000, hostOut, 53, 64, ""), tcpOf(inner, 40000, hostOut, 53, 64, ""), queryOf(8, inner, hostOut, 40000, 64, "")} {
		if r := x.Frame(api.Inside, f); r.Err != api.OK {
			t.Fatalf("%x: %d", f, r.Err)
		}
	}
	return x
}

// A word that is the same as before changes no checksum: not even 65535, of which Fix would make 0.
func TestP16WordsThatStay(t *testing.T) {
	for _, c := range []struct{ outer, inner int }{{0xcb00ffff, 0xcb000000}, {boxOut, hostIn}, {0x0a000105, hostIn}, {0x0b000005, hostIn}, {0xcbffffff, 0xcb000000}} {
		x := kept(t, c.outer, c.inner)
		for _, check := range []int{0, 1, 0x1234, 0xfffe, 0xffff} {
			for _, proto := range protocols {
				q := quoted(proto, c.outer, 40000, hostOut, 53)
				field := map[int]int{api.ICMP: 22, api.TCP: 36, api.UDP: 26}[proto]
				q = with(with(q, 10, word(check)), field, word(check))
				w := way{outFrom: end{c.inner, 40000}, outDst: end{hostOut, 53}}
				want := w.becomes(q)
				if proto == api.ICMP && wordAt(want, field) != check {
					t.Fatalf("nothing that the checksum covers has changed, but it has: %x", want)
				}
				if c.outer == 0xcb00ffff && check == 0xffff && (wordAt(want, field) != 0xffff || wordAt(want, 10) != 0xffff) {
					t.Fatalf("from 65535 to 0 is no change, but the checksums are others: %x", want)
				}
				carries(t, "from the outside", x, api.Outside, messageOf(otherOut, c.outer, 64, q), messageOf(otherOut, c.inner, 63, want))
			}
		}
	}
}

// The message's own checksum covers the quote, and holds where it is 0 too.
func TestP16TheMessagesOwnChecksum(t *testing.T) {
	x := mapped(t, roomy(3))
	q := udpOf(boxOut, 40000, hostOut, 53, 9, "abc")
	want := udpOf(hostIn, 5000, hostOut, 53, 9, "abc")
	nought := wordAt(messageOf(otherOut, hostIn, 63, want), 22)
	tell := func(dst, ttl int, quote string) string {
		return frame(otherOut, dst, ttl, api.ICMP, "", icmpBody(3, 1, word(nought)+"\x00\x00"+quote))
	}
	if wordAt(tell(hostIn, 63, want), 22) != 0 {
		t.Fatalf("the checksum is %d, not 0", wordAt(tell(hostIn, 63, want), 22))
	}
	carries(t, "0", x, api.Outside, tell(boxOut, 64, q), tell(hostIn, 63, want))
}

func TestP16TheLongestQuote(t *testing.T) {
	c := roomy(3)
	c.InMTU = api.MaxMTU
	c.OutMTU = api.MaxMTU
	x := mapped(t, c)
	text := strings.Repeat("long", api.MaxFrame)[:api.MaxFrame-28-40]
	carries(t, "in", x, api.Outside,
		messageOf(otherOut, boxOut, 64, tcpOf(boxOut, 40000, hostOut, 53, 9, text)),
		messageOf(otherOut, hostIn, 63, tcpOf(hostIn, 5000, hostOut, 53, 9, text)))
	carries(t, "out", x, api.Inside,
		messageOf(hostIn, otherOut, 64, tcpOf(otherOut, 53, hostIn, 5000, 9, text)),
		messageOf(boxOut, otherOut, 63, tcpOf(otherOut, 53, boxOut, 40000, 9, text)))
}
