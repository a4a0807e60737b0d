package octets

import (
	"math"
	"testing"
)

func TestRead(t *testing.T) {
	s := "\x01\x82\xff\x00\x7f"
	for _, c := range []struct{ i, one, two, four int }{
		{0, 0x01, 0x0182, 0x0182ff00}, {1, 0x82, 0x82ff, 0x82ff007f}, {2, 0xff, 0xff00, 0xff007f00}, {4, 0x7f, 0x7f00, 0x7f000000}, {5, 0, 0, 0}, {-1, 0, 0x01, 0x0182ff},
		{math.MaxInt, 0, 0, 0}, {math.MinInt, 0, 0, 0},
	} {
		if n := Byte(s, c.i); n != c.one {
			t.Errorf("Byte at %d: %#x, want %#x", c.i, n, c.one)
		}
		if n := Word(s, c.i); n != c.two {
			t.Errorf("Word at %d: %#x, want %#x", c.i, n, c.two)
		}
		if n := Long(s, c.i); n != c.four {
			t.Errorf("Long at %d: %#x, want %#x", c.i, n, c.four)
		}
	}
}

func TestPart(t *testing.T) {
	for _, c := range []struct {
		from, to int
		want     string
	}{
		{0, 4, "abcd"}, {1, 3, "bc"}, {2, 2, ""}, {4, 4, ""}, {3, 2, ""}, {-1, 2, ""}, {0, 5, ""}, {5, 5, ""}, {math.MinInt, math.MaxInt, ""}, {math.MaxInt, math.MinInt, ""},
	} {
		if p := Part("abcd", c.from, c.to); p != c.want {
			t.Errorf("Part from %d to %d: %q, want %q", c.from, c.to, p, c.want)
		}
	}
}

func TestFrom(t *testing.T) {
	for _, c := range []struct {
		n         int
		two, four string
	}{
		{0, "\x00\x00", "\x00\x00\x00\x00"}, {0x01020304, "\x03\x04", "\x01\x02\x03\x04"}, {0xfffefdfc, "\xfd\xfc", "\xff\xfe\xfd\xfc"},
		{0x501020304, "\x03\x04", "\x01\x02\x03\x04"}, {-1, "\xff\xff", "\xff\xff\xff\xff"},
	} {
		if s := FromWord(c.n); s != c.two {
			t.Errorf("FromWord(%#x) = %q, want %q", c.n, s, c.two)
		}
		if s := FromLong(c.n); s != c.four {
			t.Errorf("FromLong(%#x) = %q, want %q", c.n, s, c.four)
		}
	}
}

func TestPutWord(t *testing.T) {
	for _, c := range []struct {
		s    string
		i, n int
		want string
	}{
		{"abcd", 0, 0x0102, "\x01\x02cd"}, {"abcd", 2, 0xfffe, "ab\xff\xfe"}, {"abcd", 1, 0, "a\x00\x00d"}, {"abcd", 0, 0x50102, "\x01\x02cd"},
		{"abcd", 3, 1, "abcd"}, {"abcd", -1, 1, "abcd"}, {"a", 0, 1, "a"}, {"", 0, 1, ""}, {"abcd", math.MaxInt, 1, "abcd"}, {"abcd", math.MinInt, 1, "abcd"},
	} {
		if s := PutWord(c.s, c.i, c.n); s != c.want {
			t.Errorf("PutWord(%q, %d, %#x) = %q, want %q", c.s, c.i, c.n, s, c.want)
		}
	}
}

func TestPutLong(t *testing.T) {
	for _, c := range []struct {
		s    string
		i, n int
		want string
	}{
		{"abcdef", 0, 0x01020304, "\x01\x02\x03\x04ef"}, {"abcdef", 2, 0xfffefdfc, "ab\xff\xfe\xfd\xfc"}, {"abcdef", 1, 0, "a\x00\x00\x00\x00f"}, {"abcd", 0, 0x501020304, "\x01\x02\x03\x04"},
		{"abcd", 1, 1, "abcd"}, {"abcd", -1, 1, "abcd"}, {"abc", 0, 1, "abc"}, {"", 0, 1, ""}, {"abcd", math.MaxInt, 1, "abcd"}, {"abcd", math.MinInt, 1, "abcd"},
	} {
		if s := PutLong(c.s, c.i, c.n); s != c.want {
			t.Errorf("PutLong(%q, %d, %#x) = %q, want %q", c.s, c.i, c.n, s, c.want)
		}
	}
}

func TestPutByte(t *testing.T) {
	for _, c := range []struct {
		s    string
		i, n int
		want string
	}{
		{"abc", 0, 1, "\x01bc"}, {"abc", 2, 0xff, "ab\xff"}, {"abc", 1, 0x1f0, "a\xf0c"},
		{"abc", 3, 1, "abc"}, {"abc", -1, 1, "abc"}, {"", 0, 1, ""}, {"abc", math.MaxInt, 1, "abc"}, {"abc", math.MinInt, 1, "abc"},
	} {
		if s := PutByte(c.s, c.i, c.n); s != c.want {
			t.Errorf("PutByte(%q, %d, %#x) = %q, want %q", c.s, c.i, c.n, s, c.want)
		}
	}
}
