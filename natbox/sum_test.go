package natbox_test

import (
	"math"
	"strings"
	"testing"

	"natbox/api"
	"natbox/natbox"
)

func TestP3SumOfKnownTexts(t *testing.T) {
	for _, c := range []struct {
		s    string
		want int
	}{
		{"\x00\x01\xf2\x03\xf4\xf5\xf6\xf7", 8717}, {"", 65535}, {"a", 40703}, {"\xff\xff", 0},
		{"\x00", 65535}, {"\x00\x00\x00\x00", 65535}, {"\x00\x01", 65534}, {"\x01\x00", 65279}, {"\x01", 65279}, {"\x00\x00\x01", 65279},
		{"\xff\xff\xff\xff", 0}, {"\xff\xff\x00\x01", 65534}, {"\xff\xfe\x00\x01", 0}, {"\x80\x00\x80\x00", 65534},
	} {
		if n := natbox.Sum(c.s); n != c.want {
			t.Errorf("Sum(%q) = %d, want %d", c.s, n, c.want)
		}
	}
}

func TestP3SumOfLongTexts(t *testing.T) {
	for _, c := range []struct {
		what string
		s    string
		want int
	}{
		{"MaxFrame noughts", strings.Repeat("\x00", api.MaxFrame), 65535},
		{"MaxFrame bytes 255", strings.Repeat("\xff", api.MaxFrame), 255},
		{"MaxFrame-1 bytes 255", strings.Repeat("\xff", api.MaxFrame-1), 0},
		{"one byte too many", strings.Repeat("\x00", api.MaxFrame+1), -1},
		{"far too many", strings.Repeat("a", 5000000), -1},
	} {
		if n := natbox.Sum(c.s); n != c.want {
			t.Errorf("Sum of %s = %d, want %d", c.what, n, c.want)
		}
	}
}

func TestP3SumAsWithTheCarryBroughtRound(t *testing.T) {
	d := dice{1}
	for n := range 300 {
		s := d.text(n)
		if got, want := natbox.Sum(s), carried(s); got != want {
			t.Errorf("Sum(%q) = %d, want %d", s, got, want)
		}
	}
	s := d.text(api.MaxFrame)
	if got, want := natbox.Sum(s), carried(s); got != want {
		t.Errorf("Sum of MaxFrame bytes = %d, want %d", got, want)
	}
}

func TestP4FixOfKnownWords(t *testing.T) {
	for _, c := range []struct{ check, old, now, want int }{
		{56623, 21845, 12933, 0}, {0, 0, 0, 0}, {65535, 65535, 0, 65535}, {65535, 5, 5, 0},
		{65535, 65535, 65535, 0}, {65535, 65535, 1, 65534}, {0, 65535, 65535, 0}, {0, 65535, 0, 0}, {0, 0, 65535, 0}, {10, 1, 4, 7}, {1, 1, 4, 65533}, {7, 4, 1, 10},
	} {
		if n := natbox.Fix(c.check, c.old, c.now); n != c.want {
			t.Errorf("Fix(%d, %d, %d) = %d, want %d", c.check, c.old, c.now, n, c.want)
		}
	}
}

func TestP4FixOfWhatIsNoWord(t *testing.T) {
	for _, n := range []int{-1, 65536, 65536 + 5, 1 << 32, math.MinInt, math.MaxInt} {
		if natbox.Fix(n, 5, 5) != -1 || natbox.Fix(5, n, 5) != -1 || natbox.Fix(5, 5, n) != -1 || natbox.Fix(n, n, n) != -1 {
			t.Errorf("Fix with %d is not -1", n)
		}
	}
}

// What Fix gives is what Sum gives of the changed text, unless nothing but noughts is left.
func TestP4FixAsSumOfTheChangedText(t *testing.T) {
	d := dice{2}
	for range 2000 {
		s := "\x00\x01" + d.text(2*(1+d.below(20)))
		i := 2 + 2*d.below((len(s)-2)/2)
		now := d.below(65536)
		if d.below(4) == 0 {
			now = []int{0, 65535, wordAt(s, i)}[d.below(3)]
		}
		got := natbox.Fix(natbox.Sum(s), wordAt(s, i), now)
		if want := carried(with(s, i, word(now))); got != want {
			t.Errorf("Fix for %d in place of the word at %d of %q = %d, want %d", now, i, s, got, want)
		}
	}
}
