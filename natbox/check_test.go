package natbox_test

import (
	"strings"
	"testing"

	"natbox/api"
	"natbox/natbox"
)

type checkCase struct {
	why   string
	frame string
	want  api.Errno
}

func checkAll(t *testing.T, cases []checkCase) {
	t.Helper()
	for _, c := range cases {
		if e := natbox.Check(c.frame); e != c.want {
			t.Errorf("%s: Check(%.80q) = %d, want %d", c.why, c.frame, e, c.want)
		}
	}
}

func TestP5TheDocumentsFrames(t *testing.T) {
	for _, f := range []string{
		"4500002000000000 4011468e0a000005 c6336407 13880035000cf312 61626364",
		"4500002000000000 3f111589cb007109 c6336407 9c400035000c3855 61626364",
		"4500003800000000 3c0180bac0000201 cb007109 0301282800000000 4500002000000000 3f111589cb007109 c6336407 9c400035000c3855",
		"4500003800000000 3b01b3bfc0000201 0a000005 0301f62200000000 4500002000000000 3f11478e0a000005 c6336407 13880035000cf312",
		"4500002000000000 0111858e0a000005 c6336407 13880035000cf312 61626364",
		"4500003800000000 400166c00a000001 0a000005 0b00ee2300000000 4500002000000000 0111858e0a000005 c6336407 13880035000cf312",
	} {
		if e := natbox.Check(unhex(t, f)); e != api.OK {
			t.Errorf("Check of %s = %d", f, e)
		}
	}
}

func TestP5Header(t *testing.T) {
	u := udp("abcd")
	options := frame(hostIn, hostOut, 64, api.UDP, strings.Repeat("\x01", 40), udpBody(hostIn, 1, hostOut, 2, "x", ""))
	bare := with(u, 26, "\x00\x00")
	longest := udp(strings.Repeat("x", api.MaxFrame-28))
	checkAll(t, []checkCase{
		{"UDP", u, api.OK},
		{"a tail", u + "tail", api.OK},
		{"options", options, api.OK},
		{"an option that the checksum does not cover", with(options, 59, "\x02"), api.ErrSum},
		{"a tail up to MaxFrame", u + strings.Repeat("x", api.MaxFrame-len(u)), api.OK},
		{"a tail beyond MaxFrame", u + strings.Repeat("x", api.MaxFrame+1-len(u)), api.ErrFrame},
		{"total length MaxFrame", longest, api.OK},
		{"total length MaxFrame and one byte more", longest + "x", api.ErrFrame},
		{"nothing", "", api.ErrFrame},
		{"19 bytes", u[:19], api.ErrFrame},
		{"a byte too few", u[:len(u)-1], api.ErrFrame},
		{"version 3", sealHeader(with(u, 0, "\x35")), api.ErrFrame},
		{"version 5", sealHeader(with(u, 0, "\x55")), api.ErrFrame},
		{"version 0", sealHeader(with(u, 0, "\x05")), api.ErrFrame},
		{"a header of 16 bytes", sealHeader(with(u, 0, "\x44")), api.ErrFrame},
		{"a header of no bytes", sealHeader(with(u, 0, "\x40")), api.ErrFrame},
		{"a header as long as the frame", sealHeader(with(u, 0, "\x48")), api.ErrFrame},
		{"a header longer than the frame", sealHeader(with(u, 0, "\x49")), api.ErrFrame},
		{"a header beyond the total length", sealHeader(with(u, 0, "\x49")) + "tail", api.ErrFrame},
		{"total length 19", sealHeader(with(u, 2, word(19))), api.ErrFrame},
		{"total length 0", sealHeader(with(u, 2, word(0))), api.ErrFrame},
		{"total length beyond the bytes", sealHeader(with(u, 2, word(len(u)+1))), api.ErrFrame},
		{"the header's checksum off by one", with(u, 10, word(wordAt(u, 10)+1)), api.ErrSum},
		{"the header's checksum 0", with(u, 10, word(0)), api.ErrSum},
		{"more parts", sealHeader(with(u, 6, "\x20\x00")), api.ErrPart},
		{"part's place 1", sealHeader(with(u, 6, "\x00\x01")), api.ErrPart},
		{"part's place 0x1000", sealHeader(with(u, 6, "\x10\x00")), api.ErrPart},
		{"part's place 0x1fff", sealHeader(with(u, 6, "\x1f\xff")), api.ErrPart},
		{"the two upper bits", sealHeader(with(u, 6, "\xc0\x00")), api.OK},
		{"no bit", sealHeader(with(u, 6, "\x00\x00")), api.OK},
		{"bytes 1, 4, 5 and TTL 0", sealHeader(with(with(with(u, 1, "\xff"), 4, "\xff\xff"), 8, "\x00")), api.OK},
		{"protocol 0", sealHeader(with(bare, 9, "\x00")), api.ErrKind},
		{"protocol 2", sealHeader(with(bare, 9, "\x02")), api.ErrKind},
		{"protocol 255", sealHeader(with(bare, 9, "\xff")), api.ErrKind},
		{"protocol 2 without a body", frame(hostIn, hostOut, 64, 2, "", ""), api.ErrKind},
	})
}

// A checksum holds only as the one number that Sum gives: 0 and 65535 do not stand for each other.
func TestP5HeaderSumOfNought(t *testing.T) {
	u := with(udp("abcd"), 26, "\x00\x00")
	sum := wordAt(u, 10)
	nought := sealHeader(with(u, 4, word(wordAt(u, 4)+sum)))
	if wordAt(nought, 10) != 0 {
		t.Fatalf("the header's checksum is %d, not 0", wordAt(nought, 10))
	}
	checkAll(t, []checkCase{
		{"0", nought, api.OK},
		{"65535 in place of 0", with(nought, 10, "\xff\xff"), api.ErrSum},
	})
}

func TestP5Addresses(t *testing.T) {
	for first := range 256 {
		want := api.ErrAddress
		if first >= 1 && first <= 126 || first >= 128 && first <= 223 {
			want = api.OK
		}
		for _, low := range []int{0, 0xffffff} {
			a := first<<24 | low
			source := frame(a, hostOut, 64, api.UDP, "", udpBody(a, 1, hostOut, 2, "", ""))
			destination := frame(hostIn, a, 64, api.UDP, "", udpBody(hostIn, 1, a, 2, "", ""))
			checkAll(t, []checkCase{{"source", source, want}, {"destination", destination, want}})
		}
	}
}

func TestP5UDP(t *testing.T) {
	u := udp("abcd")
	bare := with(u, 26, "\x00\x00")
	filled := frame(hostIn, hostOut, 64, api.UDP, "", udpBody(hostIn, 1, hostOut, 2, "abc", "fill"))
	checkAll(t, []checkCase{
		{"no text", udp(""), api.OK},
		{"an odd text", udp("abc"), api.OK},
		{"no checksum", bare, api.OK},
		{"a body longer than UDP", filled, api.OK},
		{"what fills it up is not covered", with(filled, len(filled)-1, "?"), api.OK},
		{"what lies in UDP is", with(filled, 30, "?"), api.ErrSum},
		{"no body", frame(hostIn, hostOut, 64, api.UDP, "", ""), api.ErrFrame},
		{"7 bytes", frame(hostIn, hostOut, 64, api.UDP, "", strings.Repeat("\x00", 7)), api.ErrFrame},
		{"7 bytes and a tail", frame(hostIn, hostOut, 64, api.UDP, "", "\x00\x00\x00\x00\x00\x07\x00") + "\x00tail", api.ErrFrame},
		{"length 0", with(bare, 24, word(0)), api.ErrFrame},
		{"length 7", with(bare, 24, word(7)), api.ErrFrame},
		{"length 8", with(bare, 24, word(8)), api.OK},
		{"length beyond the body", with(bare, 24, word(13)), api.ErrFrame},
		{"length into the tail", with(bare, 24, word(13)) + "tail", api.ErrFrame},
		{"checksum off by one", with(u, 26, word(wordAt(u, 26)+1)), api.ErrSum},
		{"another port", with(u, 20, word(5001)), api.ErrSum},
		{"another address", sealHeader(with(u, 15, "\x06")), api.ErrSum},
	})
}

// Where Sum gives 0 the field must be 65535; 0 says that there is no checksum.
func TestP5UDPSumOfNought(t *testing.T) {
	u := udp("abcd")
	nought := udp(word(wordAt(u, 28)+wordAt(u, 26)) + "cd")
	if wordAt(nought, 26) != 65535 {
		nought = udp(word(wordAt(u, 28)+wordAt(u, 26)+1) + "cd")
	}
	if wordAt(nought, 26) != 65535 {
		t.Fatalf("UDP's checksum is %d, not 65535", wordAt(nought, 26))
	}
	checkAll(t, []checkCase{
		{"65535 in place of 0", nought, api.OK},
		{"none", with(nought, 26, "\x00\x00"), api.OK},
		{"65535 in another's place", with(u, 26, "\xff\xff"), api.ErrSum},
	})
}

func TestP5TCP(t *testing.T) {
	c := tcp("hello")
	units := func(n int, text string) string {
		return frame(hostIn, hostOut, 64, api.TCP, "", tcpBody(hostIn, 1, hostOut, 2, n, text))
	}
	sum := wordAt(c, 36)
	nought := with(with(c, 34, word(wordAt(c, 34)+sum)), 36, word(0))
	checkAll(t, []checkCase{
		{"TCP", c, api.OK},
		{"no text", tcp(""), api.OK},
		{"a tail is not covered", c + "tail", api.OK},
		{"a header of 60 bytes", units(15, strings.Repeat("o", 40)), api.OK},
		{"a header as long as the body", units(6, "opts"), api.OK},
		{"a header longer than the body", units(6, "opt"), api.ErrFrame},
		{"a header into the tail", units(6, "opt") + "s", api.ErrFrame},
		{"a header of 16 bytes", units(4, "text"), api.ErrFrame},
		{"a header of no bytes", units(0, "text"), api.ErrFrame},
		{"no body", frame(hostIn, hostOut, 64, api.TCP, "", ""), api.ErrFrame},
		{"19 bytes", frame(hostIn, hostOut, 64, api.TCP, "", c[20:39]), api.ErrFrame},
		{"checksum off by one", with(c, 36, word(sum+1)), api.ErrSum},
		{"no checksum", with(c, 36, word(0)), api.ErrSum},
		{"another text", with(c, len(c)-1, "?"), api.ErrSum},
		{"another address", sealHeader(with(c, 19, "\x08")), api.ErrSum},
		{"a checksum that is 0", nought, api.OK},
		{"65535 in place of 0", with(nought, 36, "\xff\xff"), api.ErrSum},
	})
}

func TestP5Queries(t *testing.T) {
	q := icmp(8, 0, "\x00\x4d\x00\x01ping")
	checkAll(t, []checkCase{
		{"echo", q, api.OK},
		{"echo without a text", icmp(8, 0, "\x00\x4d\x00\x01"), api.OK},
		{"an odd text", icmp(8, 0, "\x00\x4d\x00\x01png"), api.OK},
		{"echo's reply", icmp(0, 0, "\x00\x4d\x00\x01"), api.OK},
		{"a tail is not covered", q + "tail", api.OK},
		{"no body", frame(hostIn, hostOut, 64, api.ICMP, "", ""), api.ErrFrame},
		{"7 bytes", frame(hostIn, hostOut, 64, api.ICMP, "", icmpBody(8, 0, "\x00\x00\x00")), api.ErrFrame},
		{"checksum off by one", with(q, 22, word(wordAt(q, 22)+1)), api.ErrSum},
		{"another identifier", with(q, 25, "\x4e"), api.ErrSum},
		{"a reply of noughts", frame(hostIn, hostOut, 64, api.ICMP, "", "\x00\x00\xff\xff\x00\x00\x00\x00"), api.OK},
		{"noughts alone", frame(hostIn, hostOut, 64, api.ICMP, "", strings.Repeat("\x00", 8)), api.ErrSum},
		{"a checksum that is 0", frame(hostIn, hostOut, 64, api.ICMP, "", "\x08\x00\x00\x00\xf7\xff\x00\x00"), api.OK},
		{"65535 in place of 0", frame(hostIn, hostOut, 64, api.ICMP, "", "\x08\x00\xff\xff\xf7\xff\x00\x00"), api.ErrSum},
		{"timestamp", icmp(13, 0, strings.Repeat("s", 16)), api.OK},
		{"timestamp's reply", icmp(14, 0, strings.Repeat("s", 16)), api.OK},
		{"a longer timestamp", icmp(13, 0, strings.Repeat("s", 17)), api.OK},
		{"timestamp of 19 bytes", icmp(13, 0, strings.Repeat("s", 15)), api.ErrFrame},
		{"timestamp's reply of 19 bytes", icmp(14, 0, strings.Repeat("s", 15)), api.ErrFrame},
		{"timestamp of 19 bytes and a tail", icmp(13, 0, strings.Repeat("s", 15)) + "s", api.ErrFrame},
	})
}

func TestP5TypesAndCodes(t *testing.T) {
	rest := "\x00\x00\x00\x00" + udp("abcd")[:28]
	for kind := range 256 {
		for _, code := range []int{0, 1, 255} {
			want := api.ErrKind
			switch kind {
			case 3, 11, 12:
				want = api.OK
			case 0, 8, 13, 14:
				if code == 0 {
					want = api.OK
				}
			}
			if e := natbox.Check(icmp(kind, code, rest)); e != want {
				t.Errorf("type %d and code %d: %d, want %d", kind, code, e, want)
			}
		}
	}
}

func TestP5Quotes(t *testing.T) {
	u := udp("abcd")
	q := icmp(8, 0, "\x00\x4d\x00\x01")
	sixty := frame(hostIn, hostOut, 64, api.UDP, strings.Repeat("\x01", 40), u[20:28])
	for _, kind := range []int{3, 11, 12} {
		checkAll(t, []checkCase{
			{"UDP", message(kind, 1, u[:28]), api.OK},
			{"the whole frame", message(kind, 1, u), api.OK},
			{"TCP", message(kind, 1, tcp("")[:28]), api.OK},
			{"a tail is not covered", message(kind, 1, u[:28]) + "tail", api.OK},
			{"no quote", message(kind, 1, ""), api.ErrFrame},
			{"a quote of one byte", message(kind, 1, "\x45"), api.ErrFrame},
			{"a quote of 19 bytes", message(kind, 1, u[:19]), api.ErrFrame},
			{"a header alone", message(kind, 1, u[:20]), api.ErrFrame},
			{"7 bytes behind the header", message(kind, 1, u[:27]), api.ErrFrame},
			{"the 8th byte in the tail", message(kind, 1, u[:27]) + "x", api.ErrFrame},
			{"version 5", message(kind, 1, with(u, 0, "\x55")), api.ErrFrame},
			{"a header of 16 bytes", message(kind, 1, with(u, 0, "\x44")), api.ErrFrame},
			{"a header of 60 bytes", message(kind, 1, sixty), api.OK},
			{"a header of 60 bytes and 7 behind", message(kind, 1, sixty[:67]), api.ErrFrame},
			{"a header that is not there", message(kind, 1, with(u, 0, "\x4f")), api.ErrFrame},
			{"part's place 1", message(kind, 1, with(u, 6, "\x00\x01")), api.ErrPart},
			{"part's place 0x1000", message(kind, 1, with(u, 6, "\x10\x00")), api.ErrPart},
			{"more parts", message(kind, 1, with(u, 6, "\x20\x00")), api.OK},
			{"the two upper bits", message(kind, 1, with(u, 6, "\xc0\x00")), api.OK},
			{"protocol 2", message(kind, 1, with(u, 9, "\x02")), api.ErrKind},
			{"protocol 0", message(kind, 1, with(u, 9, "\x00")), api.ErrKind},
			{"a query with a code", message(kind, 1, with(q, 21, "\x09")), api.OK},
			{"total length 0", message(kind, 1, with(u, 2, word(0))), api.OK},
			{"total length 65535", message(kind, 1, with(u, 2, word(65535))), api.OK},
			{"addresses that are not usable", message(kind, 1, with(u, 12, strings.Repeat("\x7f", 8))), api.OK},
			{"checksums that do not hold", message(kind, 1, with(with(u, 10, "\x00\x00"), 26, "\x00\x01")), api.OK},
			{"UDP's length 0", message(kind, 1, with(u, 24, word(0))), api.OK},
		})
	}
}

func TestP5QuotedTypes(t *testing.T) {
	for _, options := range []string{"", "\x01\x01\x01\x01"} {
		for kind := range 256 {
			want := api.ErrKind
			switch kind {
			case 0, 8, 13, 14:
				want = api.OK
			}
			quote := frame(hostIn, hostOut, 64, api.ICMP, options, icmpBody(kind, 0, "\x00\x4d\x00\x01"))
			if e := natbox.Check(message(3, 1, quote)); e != want {
				t.Errorf("quoted type %d: %d, want %d", kind, e, want)
			}
		}
	}
}

// Of each two neighbours in the order of P5 the first is answered where both apply.
func TestP5Order(t *testing.T) {
	u := udp("abcd")
	c := tcp("hello")
	q := icmp(8, 0, "\x00\x4d\x00\x01")
	part := sealHeader(with(u, 6, "\x00\x01"))
	local := sealHeader(with(u, 12, "\x7f"))
	short := icmp(13, 0, "\x00\x00\x00\x00")
	quoted := with(u, 6, "\x00\x01")
	checkAll(t, []checkCase{
		{"version, then checksum", with(u, 0, "\x55"), api.ErrFrame},
		{"total length, then checksum", with(u, 2, "\xff\xff"), api.ErrFrame},
		{"checksum, then part", with(part, 10, "\x00\x00"), api.ErrSum},
		{"part, then address", sealHeader(with(part, 12, "\x7f")), api.ErrPart},
		{"part, then protocol", sealHeader(with(part, 9, "\x02")), api.ErrPart},
		{"part, then the body's checksum", with(part, 26, "\x00\x01"), api.ErrPart},
		{"address, then protocol", sealHeader(with(local, 9, "\x02")), api.ErrAddress},
		{"address, then UDP's length", with(local, 24, "\x00\x00"), api.ErrAddress},
		{"UDP's length, then checksum", with(u, 24, word(13)), api.ErrFrame},
		{"TCP's header, then checksum", with(c, 32, "\x40"), api.ErrFrame},
		{"ICMP's length, then checksum", frame(hostIn, hostOut, 64, api.ICMP, "", "\x08\x00\x00\x00\x00\x00\x00"), api.ErrFrame},
		{"ICMP's checksum, then type", with(q, 20, "\x05"), api.ErrSum},
		{"ICMP's checksum, then the timestamp's length", with(short, 22, "\x00\x00"), api.ErrSum},
		{"ICMP's checksum, then the quote's length", with(message(3, 1, ""), 22, "\x00\x00"), api.ErrSum},
		{"code, then the timestamp's length", icmp(13, 1, "\x00\x00\x00\x00"), api.ErrKind},
		{"the quote's length, then part", message(3, 1, quoted[:27]), api.ErrFrame},
		{"the quote's version, then part", message(3, 1, with(quoted, 0, "\x55")), api.ErrFrame},
		{"the quote's part, then protocol", message(3, 1, with(quoted, 9, "\x02")), api.ErrPart},
		{"the quote's length, then protocol", message(3, 1, with(u, 9, "\x02")[:27]), api.ErrFrame},
	})
}

// Each bit that a checksum covers is missed.
func TestP5EachBitIsCovered(t *testing.T) {
	for _, f := range []string{udp("abcde"), tcp("hello"), icmp(8, 0, "\x00\x4d\x00\x01ping"), message(11, 0, tcp("hello"))} {
		for i := range f {
			for bit := range 8 {
				g := with(f, i, string([]byte{f[i] ^ 1<<bit}))
				if natbox.Check(g) == api.OK {
					t.Errorf("bit %d of byte %d turned: Check(%q) is OK", bit, i, g)
				}
			}
		}
	}
}
