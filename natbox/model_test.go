package natbox_test

import (
	"sort"
	"strings"
	"testing"

	"natbox/api"
	"natbox/natbox"
)

// A second box, written another way (keys and maps, single ticks, frames as what is meant by them), is played beside the program's.

type end struct{ addr, port int }

type key struct {
	proto int
	end   end
}

type entry struct {
	external, left int
	peers          map[end]bool
}

type model struct {
	c      api.Config
	live   map[key]*entry
	tokens int
}

// packet: what a frame is made from.
type packet struct {
	side, proto, kind int // kind: of ICMP alone
	src, dst          end
	ttl               int
	text              string
	cut               bool
}

func (p packet) bytes() string {
	if p.cut {
		p.cut = false
		return cuttable(p.bytes())
	}
	switch p.proto {
	case api.UDP:
		return udpOf(p.src.addr, p.src.port, p.dst.addr, p.dst.port, p.ttl, p.text)
	case api.TCP:
		return tcpOf(p.src.addr, p.src.port, p.dst.addr, p.dst.port, p.ttl, p.text)
	}
	return queryOf(p.kind, p.src.addr, p.dst.addr, p.src.port, p.ttl, p.text)
}

func (m *model) owner(proto, external int) (key, bool) {
	for k, e := range m.live {
		if k.proto == proto && e.external == external {
			return k, true
		}
	}
	return key{}, false
}

func (m *model) free(proto, own int) int {
	ports := []int{}
	if own >= m.c.Low && own <= m.c.High {
		ports = append(ports, own)
	}
	for p := m.c.Low; p <= m.c.High; p++ {
		ports = append(ports, p)
	}
	for _, p := range ports {
		if _, taken := m.owner(proto, p); !taken {
			return p
		}
	}
	return 0
}

// early: the errors ahead of ErrTTL.
func (m *model) early(p packet) api.Errno {
	request := p.proto == api.ICMP && p.kind == 8
	reply := p.proto == api.ICMP && p.kind == 0
	switch {
	case p.src.addr == boxIn, p.src.addr == boxOut, p.dst.addr == boxIn, p.side == api.Outside && p.dst.addr != boxOut:
		return api.ErrAddress
	case reply && p.side == api.Inside, request && p.side == api.Outside, request && p.dst.addr == boxOut:
		return api.ErrKind
	}
	if p.side == api.Outside {
		if _, found := m.owner(p.proto, p.dst.port); !found {
			return api.ErrNone
		}
	}
	return api.OK
}

func (p packet) peer() end {
	if p.proto == api.ICMP {
		return end{p.dst.addr, 0}
	}
	return p.dst
}

func (m *model) isFull(p packet) bool {
	e := m.live[key{p.proto, p.src}]
	if e == nil {
		return len(m.live) == m.c.Capacity || m.free(p.proto, p.src.port) == 0
	}
	return !e.peers[p.peer()] && len(e.peers) == api.MaxPeers
}

// refuse: the answer with a message of the box's own, as long as there are tokens.
func (m *model) refuse(p packet, e api.Errno, kind, code, hint int) api.Reply {
	if m.tokens == 0 || e == api.ErrBig && p.cut {
		return api.Reply{Err: e}
	}
	m.tokens--
	return api.Reply{Err: e, Side: p.side, Frame: own([]int{boxIn, boxOut}[p.side], kind, code, hint, p.bytes())}
}

func (m *model) play(p packet) api.Reply {
	if e := m.early(p); e != api.OK {
		return api.Reply{Err: e}
	}
	mtu := []int{m.c.OutMTU, m.c.InMTU}[p.side]
	if p.ttl < 2 {
		return m.refuse(p, api.ErrTTL, 11, 0, 0)
	}
	if len(p.bytes()) > mtu {
		return m.refuse(p, api.ErrBig, 3, 4, mtu)
	}
	if p.side == api.Inside && m.isFull(p) {
		return m.refuse(p, api.ErrFull, 3, 3, 0)
	}
	p.ttl--
	if p.side == api.Outside {
		k, _ := m.owner(p.proto, p.dst.port)
		p.dst = k.end
		p.src.port = map[bool]int{true: k.end.port, false: p.src.port}[p.proto == api.ICMP]
		return api.Reply{Side: api.Inside, Frame: p.bytes()}
	}
	k := key{p.proto, p.src}
	e := m.live[k]
	if e == nil {
		e = &entry{external: m.free(p.proto, p.src.port), peers: map[end]bool{}}
		m.live[k] = e
	}
	e.peers[p.peer()] = true
	e.left = map[int]int{api.UDP: m.c.UDPIdle, api.TCP: m.c.TCPIdle, api.ICMP: m.c.QueryIdle}[p.proto]
	p.src = end{boxOut, e.external}
	return api.Reply{Side: api.Outside, Frame: p.bytes()}
}

func (m *model) tick() {
	for k, e := range m.live {
		e.left--
		if e.left == 0 {
			delete(m.live, k)
		}
	}
	m.tokens = min(m.tokens+m.c.Rate, m.c.Burst)
}

func (m *model) list() []api.Mapping {
	l := []api.Mapping{}
	for k, e := range m.live {
		l = append(l, api.Mapping{Proto: k.proto, Addr: k.end.addr, Port: k.end.port, External: e.external, Left: e.left, Peers: len(e.peers)})
	}
	sort.Slice(l, func(i, j int) bool {
		return l[i].Proto*65536+l[i].External < l[j].Proto*65536+l[j].External
	})
	return l
}

// config: a configuration so narrow that everything happens soon.
func (d *dice) config() api.Config {
	c := good()
	c.Low = 5000 + d.below(4)
	c.High = c.Low + d.below(8)
	c.Capacity = 1 + d.below(12)
	c.InMTU = 100 + d.below(3)
	c.OutMTU = 100 + d.below(3)
	c.UDPIdle = 1 + d.below(12)
	c.TCPIdle = 1 + d.below(12)
	c.QueryIdle = 1 + d.below(12)
	c.Burst = d.below(4)
	c.Rate = d.below(3)
	return c
}

func (d *dice) packet() packet {
	p := packet{side: d.below(2), proto: []int{1, 6, 17}[d.below(3)], kind: 8, ttl: 64}
	inner := end{0x0a000005 + d.below(3), 5000 + d.below(12)}
	outer := end{0xc6336407 + d.below(3), 53 + d.below(2)}
	p.src, p.dst = inner, outer
	if p.side == api.Outside {
		p.src, p.dst, p.kind = outer, end{boxOut, 5000 + d.below(12)}, 0
	}
	switch d.below(24) {
	case 0:
		p.kind = 8 - p.kind
	case 1:
		p.ttl = d.below(4)
	case 2:
		p.text = strings.Repeat("x", 50+d.below(30))
		p.cut = d.below(3) == 0
	case 3:
		p.src.addr = []int{boxIn, boxOut}[d.below(2)]
	case 4:
		p.dst.addr = []int{boxIn, hostIn}[d.below(2)]
	}
	// Of a query both ports are the identifier.
	if p.proto == api.ICMP && p.side == api.Inside {
		p.dst.port = p.src.port
	} else if p.proto == api.ICMP {
		p.src.port = p.dst.port
	}
	return p
}

func TestP8ToP13AsTheSecondBox(t *testing.T) {
	d := &dice{23}
	seen := map[api.Errno]int{}
	told := map[api.Errno]int{}
	for range 300 {
		c := d.config()
		x := made(t, c)
		m := &model{c: c, live: map[key]*entry{}, tokens: c.Burst}
		for range 150 {
			if d.below(6) == 0 {
				n := d.below(4)
				ticks(t, x, n)
				for range n {
					m.tick()
				}
			}
			p := d.packet()
			got := x.Frame(p.side, p.bytes())
			want := m.play(p)
			if got != want {
				t.Fatalf("%+v with %+v: %d, %d, %x, want %d, %d, %x", p, c, got.Err, got.Side, got.Frame, want.Err, want.Side, want.Frame)
			}
			seen[got.Err]++
			if got.Frame != "" {
				told[got.Err]++
			}
			lists(t, "the second box's mappings", x, m.list()...)
			hasTokens(t, "the second box's tokens", x, m.tokens)
		}
	}
	for _, e := range []api.Errno{api.OK, api.ErrAddress, api.ErrKind, api.ErrNone, api.ErrTTL, api.ErrBig, api.ErrFull} {
		if seen[e] < 100 {
			t.Errorf("only %d answers were %d", seen[e], e)
		}
	}
	for _, e := range []api.Errno{api.ErrTTL, api.ErrBig, api.ErrFull} {
		if told[e] < 50 || seen[e]-told[e] < 50 {
			t.Errorf("of %d answers %d only %d came with a message", seen[e], e, told[e])
		}
	}
}

// call: a frame, or so many ticks if there is none.
type call struct {
	side  int
	frame string
	ticks int
}

func (d *dice) call() call {
	switch d.below(12) {
	case 0:
		return call{ticks: d.below(5)}
	case 1:
		return call{ticks: []int{-1, api.MaxTick + 1}[d.below(2)]}
	case 2:
		return call{side: d.below(5) - 2, frame: d.text(1 + d.below(60))}
	}
	p := d.packet()
	return call{side: p.side, frame: p.bytes()}
}

func (c call) on(x *natbox.Box) api.Reply {
	if c.frame == "" {
		return api.Reply{Err: x.Tick(c.ticks)}
	}
	return x.Frame(c.side, c.frame)
}

// A box to which the calls that came to nothing were never made answers the same, whatever goes on in another one beside it.
func TestP2WhatIsRefusedChangesNothing(t *testing.T) {
	d := &dice{29}
	for range 200 {
		c := d.config()
		a := made(t, c)
		b := made(t, c)
		other := made(t, d.config())
		for range 150 {
			this := d.call()
			r := this.on(a)
			if r.Err == api.OK {
				if s := this.on(b); s != r {
					t.Fatalf("%+v: %v, and without the refused calls %v", this, r, s)
				}
			}
			d.call().on(other)
			lists(t, "without the refused calls", a, list(t, b)...)
			if c.Burst == 0 {
				hasTokens(t, "without the refused calls", a, b.Tokens())
			}
		}
	}
}
