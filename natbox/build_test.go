package natbox_test

import (
	"encoding/hex"
	"strings"
	"testing"

	"natbox/api"
)

const (
	hostIn   = 0x0a000005 // 10.0.0.5
	otherIn  = 0x0a000006
	boxIn    = 0x0a000001
	boxOut   = 0xcb007109 // 203.0.113.9
	hostOut  = 0xc6336407 // 198.51.100.7
	otherOut = 0xc0000201 // 192.0.2.1
)

// unhex: bytes that are written down, blanks between them for the eye.
func unhex(t *testing.T, s string) string {
	t.Helper()
	b, err := hex.DecodeString(strings.ReplaceAll(s, " ", ""))
	if err != nil {
		t.Fatal(err)
	}
	return string(b)
}

func word(n int) string { return string([]byte{byte(n >> 8), byte(n)}) }

func long(n int) string { return word(n>>16) + word(n) }

func wordAt(s string, i int) int { return int(s[i])<<8 | int(s[i+1]) }

// with: s with other bytes from place i on.
func with(s string, i int, b string) string { return s[:i] + b + s[i+len(b):] }

// carried: the checksum with the carry brought round at each word, another way than the program's.
func carried(s string) int {
	if len(s)%2 == 1 {
		s += "\x00"
	}
	n := 0
	for i := 0; i < len(s); i += 2 {
		n += wordAt(s, i)
		if n > 65535 {
			n -= 65535
		}
	}
	return n ^ 65535
}

// sealHeader: the frame with its header's checksum as it must be.
func sealHeader(f string) string {
	n := int(f[0]&15) * 4
	if n < 20 || n > len(f) {
		n = 20
	}
	f = with(f, 10, "\x00\x00")
	return with(f, 10, word(carried(f[:n])))
}

// frame: a header (with options, a multiple of four bytes) ahead of a body.
func frame(src, dst, ttl, proto int, options string, body string) string {
	total := 20 + len(options) + len(body)
	h := string([]byte{byte(0x45 + len(options)/4), 0}) + word(total) + "\x00\x07\x40\x00" +
		string([]byte{byte(ttl), byte(proto)}) + "\x00\x00" + long(src) + long(dst)
	return sealHeader(h + options + body)
}

// ahead: what the checksums of UDP and TCP cover ahead of the body.
func ahead(src, dst, proto, length int) string {
	return long(src) + long(dst) + word(proto) + word(length)
}

// udpBody: a body of UDP whose own length leaves out what fills it up.
func udpBody(src, sport, dst, dport int, text, filling string) string {
	n := 8 + len(text)
	b := word(sport) + word(dport) + word(n) + "\x00\x00" + text
	c := carried(ahead(src, dst, api.UDP, n) + b)
	if c == 0 {
		c = 65535
	}
	return with(b, 6, word(c)) + filling
}

// tcpBody: a body of TCP whose header has so many bytes as units tells, four to each.
func tcpBody(src, sport, dst, dport int, units int, text string) string {
	b := word(sport) + word(dport) + "\x01\x02\x03\x04\x05\x06\x07\x08" + string([]byte{byte(units << 4), 0x10}) + "\x10\x00\x00\x00\x00\x00" + text
	return with(b, 16, word(carried(ahead(src, dst, api.TCP, len(b))+b)))
}

func icmpBody(kind, code int, rest string) string {
	b := string([]byte{byte(kind), byte(code)}) + "\x00\x00" + rest
	return with(b, 2, word(carried(b)))
}

func udp(text string) string {
	return frame(hostIn, hostOut, 64, api.UDP, "", udpBody(hostIn, 5000, hostOut, 53, text, ""))
}

func tcp(text string) string {
	return frame(hostIn, hostOut, 64, api.TCP, "", tcpBody(hostIn, 5000, hostOut, 80, 5, text))
}

// icmp: what follows the checksum stands in rest.
func icmp(kind, code int, rest string) string {
	return frame(hostIn, hostOut, 64, api.ICMP, "", icmpBody(kind, code, rest))
}

// message: an error message with a quote.
func message(kind, code int, quote string) string {
	return icmp(kind, code, "\x00\x00\x00\x00"+quote)
}

// udpOf, tcpOf and queryOf: frames with a TTL from one end to another.
func udpOf(src, sport, dst, dport, ttl int, text string) string {
	return frame(src, dst, ttl, api.UDP, "", udpBody(src, sport, dst, dport, text, ""))
}

func tcpOf(src, sport, dst, dport, ttl int, text string) string {
	return frame(src, dst, ttl, api.TCP, "", tcpBody(src, sport, dst, dport, 5, text))
}

func queryOf(kind, src, dst, id, ttl int, text string) string {
	return frame(src, dst, ttl, api.ICMP, "", icmpBody(kind, 0, word(id)+"\x00\x01"+text))
}

// messageOf: an error message that tells that the quoted frame found no host.
func messageOf(src, dst, ttl int, quote string) string {
	return frame(src, dst, ttl, api.ICMP, "", icmpBody(3, 1, "\x00\x00\x00\x00"+quote))
}

// cuttable: the frame that says no more that it must not be cut.
func cuttable(f string) string {
	return sealHeader(with(f, 6, word(wordAt(f, 6)&^0x4000)))
}

// own: a message of the box's own, from its address src, about a frame; hint is the word ahead of the quote.
func own(src, kind, code, hint int, f string) string {
	quote := f[:int(f[0]&15)*4+8]
	dst := wordAt(f, 12)<<16 | wordAt(f, 14)
	m := frame(src, dst, 64, api.ICMP, "", icmpBody(kind, code, word(0)+word(hint)+quote))
	return sealHeader(with(m, 4, "\x00\x00\x00\x00"))
}

// good: the document's box.
func good() api.Config {
	return api.Config{InAddr: boxIn, OutAddr: boxOut, Low: 40000, High: 40009, Capacity: 2, InMTU: 1500, OutMTU: 1500, UDPIdle: 30, TCPIdle: 60, QueryIdle: 10, Burst: 2, Rate: 1}
}

// dice: numbers that look thrown and are the same in each run.
type dice struct{ state uint64 }

func (d *dice) below(n int) int {
	d.state = d.state*6364136223846793005 + 1442695040888963407
	return int(d.state>>33) % n
}

func (d *dice) text(n int) string {
	b := make([]byte, n)
	for i := range b {
		b[i] = byte(d.below(256))
	}
	return string(b)
}
