// Package natbox: one outside address for many hosts inside: see DOC.md.
package natbox

import (
	"natbox/api"
	"natbox/frames"
	"natbox/mappings"
	"natbox/sums"
)

// Box is a box between two sides, with its mappings.
type Box struct {
	config api.Config
	table  mappings.Table
	tokens int
	ticks  int
}

// Sum gives the internet checksum (P3).
func Sum(s string) int { return sums.Sum(s) }

// Fix turns a checksum by one word (P4).
func Fix(check int, old int, now int) int { return sums.Fix(check, old, now) }

// Check tells what is wrong with a frame (P5).
func Check(frame string) api.Errno { return frames.Check(frame) }

// New makes a box (P6).
func New(c api.Config) (*Box, api.Errno) {
	if !configHolds(c) {
		return nil, api.ErrConfig
	}
	return &Box{config: c, table: mappings.New(c.Low, c.High, c.Capacity), tokens: c.Burst}, api.OK
}

// Frame plays a frame that comes in (P7).
func (x *Box) Frame(side int, frame string) api.Reply {
	err := x.examine(side, frame)
	if err != api.OK {
		return api.Reply{Err: err}
	}
	if frames.IsErrorMessage(frame) {
		return x.message(side, frame)
	}
	if side == api.Outside {
		return x.inward(frame)
	}
	if x.isForBox(frame) {
		return x.back(frame)
	}
	return x.outward(frame)
}

// Tick lets time go by (P11).
func (x *Box) Tick(n int) api.Errno {
	if n < 0 || n > api.MaxTick || x.ticks > api.MaxTime-n {
		return api.ErrTime
	}
	x.ticks += n
	x.table.Age(n)
	x.tokens += n * x.config.Rate
	if x.tokens > x.config.Burst {
		x.tokens = x.config.Burst
	}
	return api.OK
}

// Live tells how many mappings are live (P11).
func (x *Box) Live() int { return x.table.Live() }

// Tokens tells how many tokens there are (P11).
func (x *Box) Tokens() int { return x.tokens }

// Mapping tells of a live mapping (P11).
func (x *Box) Mapping(i int) (api.Mapping, api.Errno) { return x.table.At(i) }
