package natbox_test

import (
	"strings"
	"testing"

	"natbox/api"
	"natbox/natbox"
)

// wordy: a box with tokens enough, and with MTUs that are not the same.
func wordy(capacity int) api.Config {
	c := roomy(capacity)
	c.InMTU = 120
	c.OutMTU = 100
	c.Burst = api.MaxBucket
	return c
}

// kinds: how many kinds of frames a side may send that the box with a mapping of each protocol carries.
const kinds = 4

func sends(side, kind, ttl int, text string) string {
	src, sport, dst, dport := hostIn, 5000, hostOut, 53
	if side == api.Outside {
		src, sport, dst, dport = otherOut, 99, boxOut, 40000
	}
	switch kind {
	case 0:
		return udpOf(src, sport, dst, dport, ttl, text)
	case 1:
		return tcpOf(src, sport, dst, dport, ttl, text)
	case 2:
		return queryOf([]int{8, 0}[side], src, dst, []int{5000, 40000}[side], ttl, text)
	}
	return queryOf([]int{13, 14}[side], src, dst, []int{5000, 40000}[side], ttl, "twelve bytes"+text)
}

// fills: such a frame of so many bytes.
func fills(side, kind, total int) string {
	return sends(side, kind, 64, strings.Repeat("x", total-len(sends(side, kind, 64, ""))))
}

func TestP12TheDocumentsMessage(t *testing.T) {
	x := made(t, good())
	late := unhex(t, "4500002000000000 0111858e0a000005 c6336407 13880035000cf312 61626364")
	message := unhex(t, "4500003800000000 400166c00a000001 0a000005 0b00ee2300000000 4500002000000000 0111858e0a000005 c6336407 13880035000cf312")
	tells(t, "the document's message", x, api.Inside, late, api.ErrTTL, message)
	hasTokens(t, "one message", x, 1)
	tells(t, "once more", x, api.Inside, late, api.ErrTTL, message)
	hasTokens(t, "two messages", x, 0)
	keepsStill(t, "and once more", x, api.Inside, late, api.ErrTTL)
	ticks(t, x, 1)
	hasTokens(t, "a tick", x, 1)
	lists(t, "no mapping", x)
}

func TestP12TheDocumentsThirdEndpoint(t *testing.T) {
	x := made(t, good())
	goesOut(t, "one", x, hostIn, 5000, hostOut, 53, 40000)
	goesOut(t, "two", x, hostIn, 5001, hostOut, 53, 40001)
	f := udpOf(hostIn, 5002, hostOut, 53, 64, "")
	tells(t, "three", x, api.Inside, f, api.ErrFull, own(boxIn, 3, 3, 0, f))
}

func TestP12TooLongUnderWay(t *testing.T) {
	x := mapped(t, wordy(3))
	for ttl := range 2 {
		for _, text := range []string{"", "a", "more text than a quote has", strings.Repeat("too long a text", 20)} {
			for kind := range kinds {
				f := sends(api.Inside, kind, ttl, text)
				tells(t, "from the inside", x, api.Inside, f, api.ErrTTL, own(boxIn, 11, 0, 0, f))
				f = cuttable(f)
				tells(t, "it may be cut", x, api.Inside, f, api.ErrTTL, own(boxIn, 11, 0, 0, f))
				f = sends(api.Outside, kind, ttl, text)
				tells(t, "from the outside", x, api.Outside, f, api.ErrTTL, own(boxOut, 11, 0, 0, f))
			}
		}
	}
	hasTokens(t, "so many messages", x, api.MaxBucket-2*4*kinds*3)
}

func TestP12TooBig(t *testing.T) {
	x := mapped(t, wordy(3))
	for _, more := range []int{1, 2, 200, 1400} {
		for kind := range kinds {
			f := fills(api.Inside, kind, 100+more)
			tells(t, "from the inside", x, api.Inside, f, api.ErrBig, own(boxIn, 3, 4, 100, f))
			keepsStill(t, "from the inside, it may be cut", x, api.Inside, cuttable(f), api.ErrBig)
			g := fills(api.Outside, kind, 120+more)
			tells(t, "from the outside", x, api.Outside, g, api.ErrBig, own(boxOut, 3, 4, 120, g))
			keepsStill(t, "from the outside, it may be cut", x, api.Outside, cuttable(g), api.ErrBig)
			odd := sealHeader(with(f, 6, "\x80\x00"))
			keepsStill(t, "a bit that is not looked at", x, api.Inside, odd, api.ErrBig)
			odd = sealHeader(with(f, 6, "\xc0\x00"))
			tells(t, "a bit that is not looked at", x, api.Inside, odd, api.ErrBig, own(boxIn, 3, 4, 100, odd))
			odd = sealHeader(with(f, 8, "\x02"))
			tells(t, "the least TTL", x, api.Inside, odd, api.ErrBig, own(boxIn, 3, 4, 100, odd))
		}
	}
}

// Frames that are just as long as may be, and those whose tail alone is too long, are carried and take no token.
func TestP12NotTooBig(t *testing.T) {
	x := mapped(t, wordy(3))
	for kind := range kinds {
		for _, tail := range []string{"", strings.Repeat("tail", 99)} {
			for side, total := range []int{100, 120} {
				r := x.Frame(side, fills(side, kind, total)+tail)
				if r.Err != api.OK || r.Side != 1-side || len(r.Frame) != total+len(tail) {
					t.Errorf("%d bytes from side %d: %d, %d, %x", total, side, r.Err, r.Side, r.Frame)
				}
			}
		}
	}
	hasTokens(t, "none was too long", x, api.MaxBucket)
}

// The word is the MTU of the side to which the frame would have gone, whatever that of its own side.
func TestP12TheMTU(t *testing.T) {
	for _, mtu := range []int{api.MinMTU, 255, 256, 1500, 32768, 65534} {
		c := wordy(3)
		c.OutMTU = mtu
		c.InMTU = api.MaxMTU
		x := mapped(t, c)
		f := udpOf(hostIn, 5000, hostOut, 53, 64, strings.Repeat("x", mtu+1-28))
		tells(t, "OutMTU", x, api.Inside, f, api.ErrBig, own(boxIn, 3, 4, mtu, f))
		c.InMTU = mtu
		c.OutMTU = api.MaxMTU
		x = mapped(t, c)
		f = udpOf(hostOut, 53, boxOut, 40000, 64, strings.Repeat("x", mtu+1-28))
		tells(t, "InMTU", x, api.Outside, f, api.ErrBig, own(boxOut, 3, 4, mtu, f))
	}
}

func TestP12Full(t *testing.T) {
	x := mapped(t, wordy(3))
	for _, f := range []string{
		udpOf(otherIn, 5000, hostOut, 53, 64, ""), tcpOf(otherIn, 5000, hostOut, 53, 64, "text"),
		queryOf(8, hostIn, hostOut, 5001, 64, "ping"), queryOf(13, otherIn, hostOut, 5000, 2, "twelve bytes"),
	} {
		tells(t, "no mapping more", x, api.Inside, f, api.ErrFull, own(boxIn, 3, 3, 0, f))
		f = cuttable(f)
		tells(t, "it may be cut", x, api.Inside, f, api.ErrFull, own(boxIn, 3, 3, 0, f))
	}
	for i := range 3 {
		goesOut(t, "a peer more", x, hostIn, 5000, otherOut, i, 40000)
	}
	f := udpOf(hostIn, 5000, otherOut, 3, 64, "text")
	tells(t, "no peer more", x, api.Inside, f, api.ErrFull, own(boxIn, 3, 3, 0, f))
	c := wordy(64)
	c.High = c.Low
	x = mapped(t, c)
	f = tcpOf(hostIn, 5001, hostOut, 53, 64, "text")
	tells(t, "no port more", x, api.Inside, f, api.ErrFull, own(boxIn, 3, 3, 0, f))
}

// The quote is the whole header and 8 bytes, byte for byte; neither more of the body nor the tail comes along.
func TestP12TheQuote(t *testing.T) {
	x := mapped(t, wordy(3))
	d := dice{31}
	for n := range 11 {
		for _, text := range []string{"", "a", d.text(30)} {
			for _, tail := range []string{"", "t", d.text(50)} {
				options := d.text(4 * n)
				f := wrapped(hostIn, hostOut, 1, api.UDP, options, udpBody(hostIn, 5000, hostOut, 53, text, "fill"), tail)
				r := x.Frame(api.Inside, f)
				if r != (api.Reply{Err: api.ErrTTL, Frame: own(boxIn, 11, 0, 0, f)}) {
					t.Fatalf("%x: %d, %d, %x", f, r.Err, r.Side, r.Frame)
				}
				if len(r.Frame) != 56+4*n || r.Frame[28:] != f[:28+4*n] {
					t.Fatalf("%x: the quote is %x", f, r.Frame[28:])
				}
				if e := natbox.Check(r.Frame); e != api.OK {
					t.Fatalf("%x: Check of the message %x is %d", f, r.Frame, e)
				}
			}
		}
	}
	// A UDP checksum of 0 stays 0 in the quote.
	f := with(udpOf(hostIn, 5000, hostOut, 53, 1, "abc"), 26, "\x00\x00")
	tells(t, "no UDP checksum", x, api.Inside, f, api.ErrTTL, own(boxIn, 11, 0, 0, f))
}

// Who sent the frame is told, and nobody else: the mapping does not matter.
func TestP12ToTheSource(t *testing.T) {
	x := mapped(t, wordy(3))
	for _, src := range []int{otherOut, 0x01000000, 0xdfffffff, 0x80000001, hostIn} {
		f := udpOf(src, 9, boxOut, 40000, 1, "late")
		tells(t, "from the outside", x, api.Outside, f, api.ErrTTL, own(boxOut, 11, 0, 0, f))
		if src != hostIn {
			f = udpOf(src, 9, hostOut, 53, 64, "")
			tells(t, "from the inside", x, api.Inside, f, api.ErrFull, own(boxIn, 3, 3, 0, f))
		}
	}
}

func TestP12ChecksumsAtNought(t *testing.T) {
	x := made(t, wordy(3))
	f := with(udpOf(hostIn, 65535-0x0b00-53-8, hostOut, 53, 1, ""), 26, "\x00\x00")
	want := own(boxIn, 11, 0, 0, f)
	if wordAt(want, 22) != 0 {
		t.Fatalf("the message's checksum is %d, not 0", wordAt(want, 22))
	}
	tells(t, "the body's", x, api.Inside, f, api.ErrTTL, want)
	plain := own(boxIn, 11, 0, 0, udpOf(0x0a000000, 1, hostOut, 53, 1, ""))
	f = udpOf(0x0a000000+wordAt(plain, 10), 1, hostOut, 53, 1, "")
	want = own(boxIn, 11, 0, 0, f)
	if wordAt(want, 10) != 0 {
		t.Fatalf("the header's checksum is %d, not 0", wordAt(want, 10))
	}
	tells(t, "the header's", x, api.Inside, f, api.ErrTTL, want)
}

func TestP12NothingWithOtherErrors(t *testing.T) {
	x := mapped(t, wordy(3))
	long := strings.Repeat("x", 200)
	keepsStill(t, "no such side", x, 2, udpOf(hostIn, 5000, hostOut, 53, 1, long), api.ErrSide)
	keepsStill(t, "no such side", x, -1, udpOf(hostIn, 5000, hostOut, 53, 1, long), api.ErrSide)
	for side := range 2 {
		late := udpOf(hostOut, 53, boxOut, 40000, 1, long)
		keepsStill(t, "no frame", x, side, late[:100], api.ErrFrame)
		keepsStill(t, "a checksum", x, side, with(late, 26, "\x00\x01"), api.ErrSum)
		keepsStill(t, "a part", x, side, sealHeader(with(late, 6, "\x60\x00")), api.ErrPart)
		keepsStill(t, "an address that is not usable", x, side, udpOf(0x7f000001, 53, boxOut, 40000, 1, long), api.ErrAddress)
		keepsStill(t, "an address of the box's", x, side, udpOf(boxIn, 53, boxOut, 40000, 1, long), api.ErrAddress)
		keepsStill(t, "a protocol", x, side, frame(hostOut, boxOut, 1, 2, "", long), api.ErrKind)
	}
	keepsStill(t, "a reply from the inside", x, api.Inside, queryOf(0, hostIn, hostOut, 5000, 1, long), api.ErrKind)
	keepsStill(t, "a request from the outside", x, api.Outside, queryOf(8, hostOut, boxOut, 40000, 1, long), api.ErrKind)
	keepsStill(t, "nobody has asked", x, api.Outside, udpOf(hostOut, 53, boxOut, 40001, 1, long), api.ErrNone)
	keepsStill(t, "nobody has asked", x, api.Inside, tcpOf(hostIn, 5000, boxOut, 40001, 1, long), api.ErrNone)
}

// An error message is never answered with another, whatever is wrong with it and whoever it is for.
func TestP12NothingAboutErrorMessages(t *testing.T) {
	x := mapped(t, wordy(3))
	out := udpOf(boxOut, 40000, hostOut, 53, 63, strings.Repeat("x", 200))
	in := udpOf(hostOut, 53, hostIn, 5000, 63, strings.Repeat("x", 200))
	for _, kind := range []int{3, 11, 12} {
		for _, c := range []struct {
			side, src, dst, ttl int
			quote               string
			want                api.Errno
		}{
			{api.Outside, otherOut, boxOut, 0, out[:28], api.ErrTTL}, {api.Outside, otherOut, boxOut, 1, out, api.ErrTTL}, {api.Outside, otherOut, boxOut, 2, out, api.ErrBig},
			{api.Inside, hostIn, hostOut, 0, in[:28], api.ErrTTL}, {api.Inside, hostIn, hostOut, 1, in, api.ErrTTL}, {api.Inside, hostIn, hostOut, 2, in, api.ErrBig},
			{api.Inside, hostIn, boxOut, 1, in, api.ErrNone}, {api.Outside, otherOut, boxOut, 1, in, api.ErrNone},
		} {
			f := frame(c.src, c.dst, c.ttl, api.ICMP, "", icmpBody(kind, 0, "\x00\x00\x00\x00"+c.quote))
			keepsStill(t, "an error message", x, c.side, f, c.want)
			keepsStill(t, "an error message that may be cut", x, c.side, cuttable(f), c.want)
		}
	}
	hasTokens(t, "error messages", x, api.MaxBucket)
}
