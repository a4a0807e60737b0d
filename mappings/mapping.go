package mappings

import (
	"natbox/api"
	"natbox/frames"
)

// mapping gives an endpoint inside a port outside.
// Its peers lie in an array, so that a mapping that moves in its table shares nothing with the place that it left.
type mapping struct {
	protocol int
	endpoint frames.End
	external int
	left     int
	peers    [api.MaxPeers]frames.End
	known    int
}

// takes tells whether something may go from the mapping to a peer.
func (m mapping) takes(peer frames.End) bool {
	return m.known < len(m.peers) || m.knows(peer)
}

func (m mapping) knows(peer frames.End) bool {
	for i := range m.peers {
		if i < m.known && m.peers[i] == peer {
			return true
		}
	}
	return false
}

// used is the mapping when something has gone to a peer that it takes.
func (m mapping) used(peer frames.End, idle int) mapping {
	m.left = idle
	if m.known < len(m.peers) && !m.knows(peer) {
		m.peers[m.known] = peer
		m.known++
	}
	return m
}

// isBefore is the order in which mappings are told.
func (m mapping) isBefore(other mapping) bool {
	if m.protocol != other.protocol {
		return m.protocol < other.protocol
	}
	return m.external < other.external
}
