// Package mappings: which endpoint inside has which port outside, and for how long.
package mappings

import (
	"natbox/api"
	"natbox/frames"
)

// Table holds the live mappings, always in the order in which they are told (P11).
type Table struct {
	low, high int
	capacity  int
	list      []mapping
}

// New is a table without mappings that gives out the external ports from low to high.
func New(low int, high int, capacity int) Table {
	return Table{low: low, high: high, capacity: capacity}
}

// Endpoint is the endpoint that has an external port, and whether there is one.
func (t *Table) Endpoint(protocol int, external int) (frames.End, bool) {
	i := t.findExternal(protocol, external)
	if i < 0 {
		return frames.End{}, false
	}
	return t.list[i].endpoint, true
}

// Sender is the endpoint that has sent to a peer from an external port, and whether there is one.
func (t *Table) Sender(protocol int, external int, peer frames.End) (frames.End, bool) {
	i := t.findExternal(protocol, external)
	if i < 0 || !t.list[i].knows(peer) {
		return frames.End{}, false
	}
	return t.list[i].endpoint, true
}

// External is the external port that an endpoint has, and whether it has one.
func (t *Table) External(protocol int, endpoint frames.End) (int, bool) {
	i := t.findEndpoint(protocol, endpoint)
	if i < 0 {
		return 0, false
	}
	return t.list[i].external, true
}

// Use is the external port from which an endpoint sends to a peer (P8). With ErrFull nothing has changed.
func (t *Table) Use(protocol int, endpoint frames.End, peer frames.End, idle int) (int, api.Errno) {
	i := t.findEndpoint(protocol, endpoint)
	if i < 0 {
		return t.open(protocol, endpoint, peer, idle)
	}
	m := t.list[i]
	if !m.takes(peer) {
		return 0, api.ErrFull
	}
	t.list[i] = m.used(peer, idle)
	return m.external, api.OK
}

// findExternal is the place of the mapping with an external port, below 0 if there is none.
func (t *Table) findExternal(protocol int, external int) int {
	for i := range t.list {
		if t.list[i].protocol == protocol && t.list[i].external == external {
			return i
		}
	}
	return -1
}

// findEndpoint is the place of an endpoint's mapping, below 0 if it has none.
func (t *Table) findEndpoint(protocol int, endpoint frames.End) int {
	for i := range t.list {
		if t.list[i].protocol == protocol && t.list[i].endpoint == endpoint {
			return i
		}
	}
	return -1
}

func (t *Table) open(protocol int, endpoint frames.End, peer frames.End, idle int) (int, api.Errno) {
	external := t.choose(protocol, endpoint.Port)
	if len(t.list) >= t.capacity || external > t.high {
		return 0, api.ErrFull
	}
	m := mapping{protocol: protocol, endpoint: endpoint, external: external}
	t.insert(m.used(peer, idle))
	return external, api.OK
}

// choose is the external port for an endpoint's own port, above high if none is free.
func (t *Table) choose(protocol int, own int) int {
	if own >= t.low && own <= t.high && t.findExternal(protocol, own) < 0 {
		return own
	}
	least := t.low
	// The ports of a protocol come in rising order: the first gap is the least free one.
	for i := range t.list {
		if t.list[i].protocol == protocol && t.list[i].external == least {
			least++
		}
	}
	return least
}

func (t *Table) insert(m mapping) {
	t.list = append(t.list, m)
	for i := len(t.list) - 1; i > 0 && m.isBefore(t.list[i-1]); i-- {
		t.list[i] = t.list[i-1]
		t.list[i-1] = m
	}
}

// Age lets n ticks go by: n at once come to the same as one after the other.
func (t *Table) Age(n int) {
	kept := 0
	for i := range t.list {
		m := t.list[i]
		if m.left > n {
			m.left -= n
			t.list[kept] = m
			kept++
		}
	}
	t.list = t.list[:kept]
}

// Live is the number of live mappings.
func (t *Table) Live() int {
	return len(t.list)
}

// At tells of the i-th live mapping (P11).
func (t *Table) At(i int) (api.Mapping, api.Errno) {
	if i < 0 || i >= len(t.list) {
		return api.Mapping{}, api.ErrIndex
	}
	m := t.list[i]
	return api.Mapping{Proto: m.protocol, Addr: m.endpoint.Address, Port: m.endpoint.Port, External: m.external, Left: m.left, Peers: m.known}, api.OK
}
