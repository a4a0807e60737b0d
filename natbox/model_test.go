package natbox_test

import (
	"sort"
	"strings"
	"testing"

	"natbox/api"
	"natbox/natbox"
)

// A second box, written another way (keys and maps, single ticks, frames as what is meant by them), is played beside the program's.

type end struct{ addr, port int }

type key struct {
	proto int
	end   end
}

type entry struct {
	external, left int
	peers          map[end]bool
}

type model struct {
	c      api.Config
	live   map[key]*entry
	tokens int
	came   []packet // what came out, its side that on which it did, but for error messages
}

// packet: what a frame is made from.
type packet struct {
	side, proto, kind int // kind: of ICMP alone
	src, dst          end
	ttl               int
	text              string
	cut               bool
	quote             *packet // of error messages alone, of which so many bytes are quoted
	quoted            int
	torn              string // the one byte of a checksum that ends the quote, as it came
}

func aModel(c api.Config) *model {
	return &model{c: c, live: map[key]*entry{}, tokens: c.Burst}
}

func (p packet) bytes() string {
	if p.cut {
		p.cut = false
		return cuttable(p.bytes())
	}
	if p.quote != nil {
		q := p.quote.bytes()[:p.quoted]
		return frame(p.src.addr, p.dst.addr, p.ttl, api.ICMP, "", icmpBody(p.kind, 1, p.text+with(q, len(q)-len(p.torn), p.torn)))
	}
	switch p.proto {
	case api.UDP:
		return udpOf(p.src.addr, p.src.port, p.dst.addr, p.dst.port, p.ttl, p.text)
	case api.TCP:
		return tcpOf(p.src.addr, p.src.port, p.dst.addr, p.dst.port, p.ttl, p.text)
	}
	return queryOf(p.kind, p.src.addr, p.dst.addr, p.src.port, p.ttl, p.text)
}

func (m *model) owner(proto, external int) (key, bool) {
	for k, e := range m.live {
		if k.proto == proto && e.external == external {
			return k, true
		}
	}
	return key{}, false
}

func (m *model) free(proto, own int) int {
	ports := []int{}
	if own >= m.c.Low && own <= m.c.High {
		ports = append(ports, own)
	}
	for p := m.c.Low; p <= m.c.High; p++ {
		ports = append(ports, p)
	}
	for _, p := range ports {
		if _, taken := m.owner(proto, p); !taken {
			return p
		}
	}
	return 0
}

// early: the errors ahead of ErrTTL.
func (m *model) early(p packet) api.Errno {
	query := p.proto == api.ICMP && p.quote == nil
	request := query && p.kind == 8
	reply := query && p.kind == 0
	switch {
	case p.src.addr == boxIn, p.src.addr == boxOut, p.dst.addr == boxIn, p.side == api.Outside && p.dst.addr != boxOut:
		return api.ErrAddress
	case reply && p.side == api.Inside, request && p.side == api.Outside, request && p.dst.addr == boxOut:
		return api.ErrKind
	}
	if p.quote != nil {
		if m.retold(p) == nil {
			return api.ErrNone
		}
	} else if p.dst.addr == boxOut {
		if _, found := m.owner(p.proto, p.dst.port); !found {
			return api.ErrNone
		}
	}
	return api.OK
}

// retold: the error message as it comes out on its side, nil if there is nobody to be told.
func (m *model) retold(p packet) *packet {
	q := *p.quote
	sender, sent := m.owner(q.proto, q.src.port)
	sent = sent && q.src.addr == boxOut
	receiver := m.live[key{q.proto, q.dst}]
	if p.side == api.Outside {
		if !sent || !m.live[sender].peers[q.peer()] {
			return nil
		}
		p.side, p.dst, q.src = api.Inside, sender.end, sender.end
	} else if p.dst.addr != boxOut {
		if receiver == nil || p.dst.addr != q.src.addr {
			return nil
		}
		p.side, p.src, q.dst = api.Outside, end{boxOut, 0}, end{boxOut, receiver.external}
		if q.proto == api.ICMP {
			q.src.port = receiver.external
		}
	} else {
		if !sent || receiver == nil || q.proto == api.ICMP || !m.live[sender].peers[end{boxOut, receiver.external}] {
			return nil
		}
		p.src, p.dst, q.src, q.dst = end{boxOut, 0}, sender.end, sender.end, end{boxOut, receiver.external}
	}
	if q.proto == api.TCP && p.quoted == 37 {
		p.torn = p.quote.bytes()[36:37]
	}
	p.quote = &q
	return &p
}

func (p packet) peer() end {
	if p.proto == api.ICMP {
		return end{p.dst.addr, 0}
	}
	return p.dst
}

func (m *model) isFull(p packet) bool {
	e := m.live[key{p.proto, p.src}]
	if e == nil {
		return len(m.live) == m.c.Capacity || m.free(p.proto, p.src.port) == 0
	}
	return !e.peers[p.peer()] && len(e.peers) == api.MaxPeers
}

// refuse: the answer with a message of the box's own, as long as there are tokens.
func (m *model) refuse(p packet, e api.Errno, kind, code, hint int) api.Reply {
	if m.tokens == 0 || p.quote != nil || e == api.ErrBig && p.cut {
		return api.Reply{Err: e}
	}
	m.tokens--
	return api.Reply{Err: e, Side: p.side, Frame: own([]int{boxIn, boxOut}[p.side], kind, code, hint, p.bytes())}
}

// to: the side to which a packet goes.
func (p packet) to() int {
	if p.side == api.Inside && p.dst.addr != boxOut {
		return api.Outside
	}
	return api.Inside
}

func (m *model) play(p packet) api.Reply {
	if e := m.early(p); e != api.OK {
		return api.Reply{Err: e}
	}
	mtu := []int{m.c.InMTU, m.c.OutMTU}[p.to()]
	if p.ttl < 2 {
		return m.refuse(p, api.ErrTTL, 11, 0, 0)
	}
	if len(p.bytes()) > mtu {
		return m.refuse(p, api.ErrBig, 3, 4, mtu)
	}
	if p.side == api.Inside && p.quote == nil && m.isFull(p) {
		return m.refuse(p, api.ErrFull, 3, 3, 0)
	}
	if p.quote != nil {
		p = *m.retold(p)
	} else {
		p = m.passed(p)
		m.came = append(m.came, p)
	}
	p.ttl--
	return api.Reply{Side: p.side, Frame: p.bytes()}
}

// passed: what is no error message with the ends and on the side of its coming out, its mapping made or used.
func (m *model) passed(p packet) packet {
	to, before := p.to(), p
	if p.dst.addr == boxOut {
		k, _ := m.owner(p.proto, p.dst.port)
		p.dst = k.end
	}
	if p.side == api.Inside {
		k := key{p.proto, p.src}
		e := m.live[k]
		if e == nil {
			e = &entry{external: m.free(p.proto, p.src.port), peers: map[end]bool{}}
			m.live[k] = e
		}
		e.peers[before.peer()] = true
		e.left = map[int]int{api.UDP: m.c.UDPIdle, api.TCP: m.c.TCPIdle, api.ICMP: m.c.QueryIdle}[p.proto]
		p.src = end{boxOut, e.external}
	}
	if p.proto == api.ICMP {
		id := []int{p.dst.port, p.src.port}[to]
		p.src.port, p.dst.port = id, id
	}
	p.side = to
	return p
}

func (m *model) tick() {
	for k, e := range m.live {
		e.left--
		if e.left == 0 {
			delete(m.live, k)
		}
	}
	m.tokens = min(m.tokens+m.c.Rate, m.c.Burst)
}

func (m *model) list() []api.Mapping {
	l := []api.Mapping{}
	for k, e := range m.live {
		l = append(l, api.Mapping{Proto: k.proto, Addr: k.end.addr, Port: k.end.port, External: e.external, Left: e.left, Peers: len(e.peers)})
	}
	sort.Slice(l, func(i, j int) bool {
		return l[i].Proto*65536+l[i].External < l[j].Proto*65536+l[j].External
	})
	return l
}

// config: a configuration so narrow that everything happens soon.
func (d *dice) config() api.Config {
	c := good()
	c.Low = 5000 + d.below(4)
	c.High = c.Low + d.below(8)
	c.Capacity = 1 + d.below(12)
	c.InMTU = 100 + d.below(3)
	c.OutMTU = 100 + d.below(3)
	c.UDPIdle = 1 + d.below(12)
	c.TCPIdle = 1 + d.below(12)
	c.QueryIdle = 1 + d.below(12)
	c.Burst = d.below(4)
	c.Rate = d.below(3)
	return c
}

// frameOf: a packet that is no error message; what is for the box may be for somebody whose packet came out.
func (d *dice) frameOf(came []packet) packet {
	p := packet{side: d.below(2), proto: []int{1, 6, 17}[d.below(3)], kind: 8, ttl: 64}
	inner := end{0x0a000005 + d.below(3), 5000 + d.below(12)}
	outer := end{0xc6336407 + d.below(3), 53 + d.below(2)}
	asked := end{boxOut, 5000 + d.below(12)}
	if q := d.last(came); q.src.addr == boxOut && d.below(4) > 0 {
		p.proto, asked = q.proto, q.src
	}
	p.src, p.dst = inner, outer
	if p.side == api.Outside {
		p.src, p.dst, p.kind = outer, asked, 0
	} else if d.below(3) == 0 {
		p.dst = asked
	}
	switch d.below(24) {
	case 0:
		p.kind = 8 - p.kind
	case 1:
		p.ttl = d.below(4)
	case 2:
		p.text = strings.Repeat("x", 50+d.below(30))
		p.cut = d.below(3) == 0
	case 3:
		p.src.addr = []int{boxIn, boxOut}[d.below(2)]
	case 4:
		p.dst.addr = []int{boxIn, hostIn}[d.below(2)]
	}
	// Of a query both ports are the identifier.
	if p.proto == api.ICMP && p.side == api.Inside {
		p.dst.port = p.src.port
	} else if p.proto == api.ICMP {
		p.src.port = p.dst.port
	}
	return p
}

// messageAbout: an error message from where a packet came out, about it or about what is almost the same.
func (d *dice) messageAbout(q packet) packet {
	p := packet{side: q.side, proto: api.ICMP, kind: []int{3, 11, 12}[d.below(3)], ttl: 64, text: d.text(4)}
	p.src, p.dst = end{q.dst.addr, 0}, end{q.src.addr, 0}
	if d.below(4) == 0 {
		p.src.addr = []int{0x0a000005, 0xc6336407}[q.side] + d.below(3)
	}
	q.text = strings.Repeat("q", d.below(40))
	switch d.below(24) {
	case 0:
		q.src.port += d.below(3) - 1
	case 1:
		q.dst.port += d.below(3) - 1
	case 2:
		q.src.addr += d.below(3) - 1
	case 3:
		q.dst.addr += d.below(3) - 1
	case 4:
		p.dst.addr = []int{boxIn, boxOut, hostOut}[d.below(3)]
	case 5:
		p.src.addr = []int{boxIn, boxOut}[d.below(2)]
	case 6:
		q.proto = []int{1, 6, 17}[d.below(3)]
	case 7:
		p.ttl = d.below(4)
	case 8:
		q.src, q.dst = q.dst, q.src
	case 9:
		p.side = 1 - p.side
	case 10:
		q.text = strings.Repeat("long", 20)
		p.cut = d.below(2) == 0
	}
	if q.proto == api.ICMP {
		q.dst.port = q.src.port
	}
	p.quote = &q
	p.quoted = 28 + d.below(len(q.bytes())-27)
	return p
}

// last: one of the last packets that came out, if any.
func (d *dice) last(came []packet) packet {
	if len(came) == 0 {
		return packet{}
	}
	return came[len(came)-1-d.below(min(len(came), 12))]
}

// packet: a packet, or now and then an error message about one of the last that came out.
func (d *dice) packet(came []packet) packet {
	if len(came) == 0 || d.below(3) > 0 {
		return d.frameOf(came)
	}
	return d.messageAbout(d.last(came))
}

func TestP8ToP16AsTheSecondBox(t *testing.T) {
	d := &dice{23}
	seen := map[api.Errno]int{}
	told := map[api.Errno]int{}
	ways := map[[3]int]int{} // from which side to which, and whether a message
	for range 400 {
		c := d.config()
		x := made(t, c)
		m := aModel(c)
		for range 150 {
			if d.below(6) == 0 {
				n := d.below(4)
				ticks(t, x, n)
				for range n {
					m.tick()
				}
			}
			p := d.packet(m.came)
			got := x.Frame(p.side, p.bytes())
			want := m.play(p)
			if got != want {
				t.Fatalf("%+v, quote %+v, with %+v: %d, %d, %x, want %d, %d, %x", p, p.quote, c, got.Err, got.Side, got.Frame, want.Err, want.Side, want.Frame)
			}
			seen[got.Err]++
			if got.Frame != "" {
				told[got.Err]++
			}
			if got.Err == api.OK {
				ways[[3]int{p.side, got.Side, map[bool]int{true: 1}[p.quote != nil]}]++
			}
			lists(t, "the second box's mappings", x, m.list()...)
			hasTokens(t, "the second box's tokens", x, m.tokens)
		}
	}
	for _, e := range []api.Errno{api.OK, api.ErrAddress, api.ErrKind, api.ErrNone, api.ErrTTL, api.ErrBig, api.ErrFull} {
		if seen[e] < 100 {
			t.Errorf("only %d answers were %d", seen[e], e)
		}
	}
	for _, e := range []api.Errno{api.ErrTTL, api.ErrBig, api.ErrFull} {
		if told[e] < 50 || seen[e]-told[e] < 50 {
			t.Errorf("of %d answers %d only %d came with a message", seen[e], e, told[e])
		}
	}
	for _, w := range [][3]int{{0, 1, 0}, {1, 0, 0}, {0, 0, 0}, {0, 1, 1}, {1, 0, 1}, {0, 0, 1}} {
		if ways[w] < 200 {
			t.Errorf("only %d went the way %v", ways[w], w)
		}
	}
}

// call: a frame, or so many ticks if there is none.
type call struct {
	side  int
	frame string
	ticks int
}

// call: a call, and what it does to the second box.
func (d *dice) call(m *model) call {
	switch d.below(12) {
	case 0:
		n := d.below(5)
		for range n {
			m.tick()
		}
		return call{ticks: n}
	case 1:
		return call{ticks: []int{-1, api.MaxTick + 1}[d.below(2)]}
	case 2:
		return call{side: d.below(5) - 2, frame: d.text(1 + d.below(60))}
	}
	p := d.packet(m.came)
	m.play(p)
	return call{side: p.side, frame: p.bytes()}
}

func (c call) on(x *natbox.Box) api.Reply {
	if c.frame == "" {
		return api.Reply{Err: x.Tick(c.ticks)}
	}
	return x.Frame(c.side, c.frame)
}

// A box to which the calls that came to nothing were never made answers the same, whatever goes on in another one beside it.
func TestP2WhatIsRefusedChangesNothing(t *testing.T) {
	d := &dice{29}
	for range 200 {
		c := d.config()
		a := made(t, c)
		b := made(t, c)
		m := aModel(c)
		apart := d.config()
		other := made(t, apart)
		second := aModel(apart)
		for range 150 {
			this := d.call(m)
			r := this.on(a)
			if r.Err == api.OK {
				if s := this.on(b); s != r {
					t.Fatalf("%+v: %v, and without the refused calls %v", this, r, s)
				}
			}
			d.call(second).on(other)
			lists(t, "without the refused calls", a, list(t, b)...)
			if c.Burst == 0 {
				hasTokens(t, "without the refused calls", a, b.Tokens())
			}
		}
	}
}
