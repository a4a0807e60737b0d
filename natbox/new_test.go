package natbox_test

import (
	"math"
	"testing"

	"natbox/api"
	"natbox/natbox"
)

// newIs tells whether New takes a configuration just as it should.
func newIs(t *testing.T, what string, c api.Config, want api.Errno) {
	t.Helper()
	x, e := natbox.New(c)
	if e != want || (x != nil) != (want == api.OK) {
		t.Errorf("%s: New(%+v) = %v, %d, want %d", what, c, x, e, want)
		return
	}
	if x != nil && (x.Tokens() != c.Burst || x.Live() != 0) {
		t.Errorf("%s: %d tokens and %d mappings, want %d and none", what, x.Tokens(), x.Live(), c.Burst)
	}
}

func TestP6TheDocumentsBox(t *testing.T) {
	newIs(t, "the document's box", good(), api.OK)
	newIs(t, "nothing set", api.Config{}, api.ErrConfig)
}

func TestP6EachNumber(t *testing.T) {
	for _, f := range []struct {
		what      string
		at        func(*api.Config) *int
		low, high int
	}{
		{"Low", func(c *api.Config) *int { return &c.Low }, 1, 40009},
		{"High", func(c *api.Config) *int { return &c.High }, 40000, 65535},
		{"Capacity", func(c *api.Config) *int { return &c.Capacity }, 1, api.MaxCapacity},
		{"InMTU", func(c *api.Config) *int { return &c.InMTU }, api.MinMTU, api.MaxMTU},
		{"OutMTU", func(c *api.Config) *int { return &c.OutMTU }, api.MinMTU, api.MaxMTU},
		{"UDPIdle", func(c *api.Config) *int { return &c.UDPIdle }, 1, api.MaxIdle},
		{"TCPIdle", func(c *api.Config) *int { return &c.TCPIdle }, 1, api.MaxIdle},
		{"QueryIdle", func(c *api.Config) *int { return &c.QueryIdle }, 1, api.MaxIdle},
		{"Burst", func(c *api.Config) *int { return &c.Burst }, 0, api.MaxBucket},
		{"Rate", func(c *api.Config) *int { return &c.Rate }, 0, api.MaxBucket},
	} {
		for _, n := range []int{f.low, f.low + 1, f.high - 1, f.high, f.low - 1, f.high + 1, -1, f.low + 1<<32, math.MinInt, math.MaxInt} {
			c := good()
			*f.at(&c) = n
			want := api.ErrConfig
			if n >= f.low && n <= f.high {
				want = api.OK
			}
			newIs(t, f.what, c, want)
		}
	}
}

func TestP6Ports(t *testing.T) {
	for _, p := range []struct {
		low, high int
		want      api.Errno
	}{
		{1, 65535, api.OK}, {1, 1, api.OK}, {65535, 65535, api.OK}, {40000, 40000, api.OK},
		{0, 65535, api.ErrConfig}, {0, 0, api.ErrConfig}, {1, 65536, api.ErrConfig}, {65536, 65536, api.ErrConfig}, {40001, 40000, api.ErrConfig}, {-5, -1, api.ErrConfig}, {math.MaxInt, math.MinInt, api.ErrConfig},
	} {
		c := good()
		c.Low = p.low
		c.High = p.high
		newIs(t, "ports", c, p.want)
	}
}

func TestP6Addresses(t *testing.T) {
	for first := -1; first <= 257; first++ {
		want := api.ErrConfig
		if first >= 1 && first <= 126 || first >= 128 && first <= 223 {
			want = api.OK
		}
		for _, low := range []int{0, 0xffffff} {
			c := good()
			c.InAddr = first<<24 | low
			newIs(t, "InAddr", c, want)
			c = good()
			c.OutAddr = first<<24 | low
			newIs(t, "OutAddr", c, want)
		}
	}
	for _, a := range []int{hostIn + 1<<32, hostIn - 1<<32, hostIn + 1<<56, math.MinInt, math.MaxInt, math.MinInt + hostIn} {
		c := good()
		c.InAddr = a
		newIs(t, "InAddr of more than 32 bits", c, api.ErrConfig)
		c = good()
		c.OutAddr = a
		newIs(t, "OutAddr of more than 32 bits", c, api.ErrConfig)
	}
}

func TestP6TwoAddresses(t *testing.T) {
	c := good()
	c.OutAddr = c.InAddr
	newIs(t, "one address for both sides", c, api.ErrConfig)
	c.OutAddr = c.InAddr + 1
	newIs(t, "neighbours", c, api.OK)
}
