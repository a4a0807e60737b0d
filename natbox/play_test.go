package natbox_test

import (
	"testing"

	"natbox/api"
	"natbox/natbox"
)

// roomy: the document's box with more room.
func roomy(capacity int) api.Config {
	c := good()
	c.Capacity = capacity
	return c
}

// silent: a box without tokens, so that it has no messages of its own.
func silent(c api.Config) api.Config {
	c.Burst = 0
	return c
}

func made(t *testing.T, c api.Config) *natbox.Box {
	t.Helper()
	x, e := natbox.New(c)
	if x == nil || e != api.OK {
		t.Fatalf("New(%v) = %v, %d", c, x, e)
	}
	return x
}

// comesOut: the frame comes out on a side as it must.
func comesOut(t *testing.T, why string, x *natbox.Box, side int, f string, to int, want string) {
	t.Helper()
	r := x.Frame(side, f)
	if r != (api.Reply{Err: api.OK, Side: to, Frame: want}) {
		t.Fatalf("%s: Frame(%d, %x) = %d, %d, %x, want 0, %d, %x", why, side, f, r.Err, r.Side, r.Frame, to, want)
	}
}

// carries: the frame comes out on the other side as it must.
func carries(t *testing.T, why string, x *natbox.Box, side int, f, want string) {
	t.Helper()
	comesOut(t, why, x, side, f, 1-side, want)
}

// turnsBack: the frame comes from the inside, and comes out there as it must.
func turnsBack(t *testing.T, why string, x *natbox.Box, f, want string) {
	t.Helper()
	comesOut(t, why, x, api.Inside, f, api.Inside, want)
}

// refuses: the answer is an error; nothing comes out, unless it is an error of which the box may tell, and then it takes a token.
func refuses(t *testing.T, why string, x *natbox.Box, side int, f string, want api.Errno) {
	t.Helper()
	tokens := x.Tokens()
	r := x.Frame(side, f)
	if r.Err != want {
		t.Fatalf("%s: Frame(%d, %x) = %d, want %d", why, side, f, r.Err, want)
	}
	tells := want == api.ErrTTL || want == api.ErrBig || want == api.ErrFull
	if r.Frame != "" && (!tells || tokens == 0 || r.Side != side) || r.Frame == "" && r.Side != 0 {
		t.Fatalf("%s: Frame(%d, %x) = %d, and on side %d comes out %x", why, side, f, r.Err, r.Side, r.Frame)
	}
	if r.Frame != "" {
		tokens--
	}
	hasTokens(t, why, x, tokens)
}

// tells: the answer is an error, on the frame's own side comes out a message, and it takes a token.
func tells(t *testing.T, why string, x *natbox.Box, side int, f string, err api.Errno, want string) {
	t.Helper()
	tokens := x.Tokens()
	mappings := list(t, x)
	r := x.Frame(side, f)
	if r != (api.Reply{Err: err, Side: side, Frame: want}) {
		t.Fatalf("%s: Frame(%d, %x) = %d, %d, %x, want %d, %d, %x", why, side, f, r.Err, r.Side, r.Frame, err, side, want)
	}
	hasTokens(t, why, x, tokens-1)
	lists(t, why, x, mappings...)
}

// keepsStill: the answer is an error, nothing comes out, and nothing has changed.
func keepsStill(t *testing.T, why string, x *natbox.Box, side int, f string, err api.Errno) {
	t.Helper()
	tokens := x.Tokens()
	mappings := list(t, x)
	r := x.Frame(side, f)
	if r != (api.Reply{Err: err}) {
		t.Fatalf("%s: Frame(%d, %x) = %d, %d, %x, want %d and nothing", why, side, f, r.Err, r.Side, r.Frame, err)
	}
	hasTokens(t, why, x, tokens)
	lists(t, why, x, mappings...)
}

func hasTokens(t *testing.T, why string, x *natbox.Box, want int) {
	t.Helper()
	if x.Tokens() != want {
		t.Fatalf("%s: %d tokens, want %d", why, x.Tokens(), want)
	}
}

func ticks(t *testing.T, x *natbox.Box, n int) {
	t.Helper()
	if e := x.Tick(n); e != api.OK {
		t.Fatalf("Tick(%d) = %d", n, e)
	}
}

// list: all live mappings.
func list(t *testing.T, x *natbox.Box) []api.Mapping {
	t.Helper()
	l := []api.Mapping{}
	for i := range x.Live() {
		m, e := x.Mapping(i)
		if e != api.OK {
			t.Fatalf("Mapping(%d) of %d: error %d", i, x.Live(), e)
		}
		l = append(l, m)
	}
	return l
}

// lists: the live mappings are these, and no others are told.
func lists(t *testing.T, why string, x *natbox.Box, want ...api.Mapping) {
	t.Helper()
	got := list(t, x)
	same := len(got) == len(want)
	for i := 0; same && i < len(want); i++ {
		same = got[i] == want[i]
	}
	if !same {
		t.Fatalf("%s: mappings %v, want %v", why, got, want)
	}
	for _, i := range []int{-1, len(want), len(want) + 1, api.MaxCapacity, -1 << 63, 1<<63 - 1} {
		if m, e := x.Mapping(i); m != (api.Mapping{}) || e != api.ErrIndex {
			t.Fatalf("%s: Mapping(%d) = %v, %d", why, i, m, e)
		}
	}
}
