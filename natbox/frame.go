package natbox

import (
	"natbox/api"
	"natbox/frames"
)

// examine finds the errors that do not hang on mappings.
func (x *Box) examine(side int, frame string) api.Errno {
	if side != api.Inside && side != api.Outside {
		return api.ErrSide
	}
	err := frames.Check(frame)
	if err != api.OK {
		return err
	}
	if !x.addressesMayBe(side, frame) {
		return api.ErrAddress
	}
	if !x.kindMayBe(side, frame) {
		return api.ErrKind
	}
	return api.OK
}

func (x *Box) addressesMayBe(side int, frame string) bool {
	from := frames.SourceAddress(frame)
	to := frames.DestinationAddress(frame)
	if from == x.config.InAddr || from == x.config.OutAddr || to == x.config.InAddr {
		return false
	}
	return side == api.Inside || to == x.config.OutAddr
}

// kindMayBe keeps the box and the hosts inside from being asked.
func (x *Box) kindMayBe(side int, frame string) bool {
	if side == api.Outside {
		return !frames.IsRequest(frame)
	}
	if frames.IsReply(frame) {
		return false
	}
	return !frames.IsRequest(frame) || !x.isForBox(frame)
}

func (x *Box) isForBox(frame string) bool {
	return frames.DestinationAddress(frame) == x.config.OutAddr
}

// outward carries UDP, TCP and requests from the inside to the outside (P8).
func (x *Box) outward(frame string) api.Reply {
	err := passes(frame, x.config.OutMTU)
	if err != api.OK {
		return x.refusal(err, api.Inside, frame, x.config.OutMTU)
	}
	sent, err := x.fromBox(frame)
	if err != api.OK {
		return x.refusal(err, api.Inside, frame, x.config.OutMTU)
	}
	return api.Reply{Side: api.Outside, Frame: frames.Sent(sent)}
}

// inward carries UDP, TCP and replies from the outside to the inside (P9).
func (x *Box) inward(frame string) api.Reply {
	endpoint, found := x.asked(frame)
	if !found {
		return api.Reply{Err: api.ErrNone}
	}
	err := passes(frame, x.config.InMTU)
	if err != api.OK {
		return x.refusal(err, api.Outside, frame, x.config.InMTU)
	}
	frame = frames.WithDestination(frame, endpoint)
	return api.Reply{Side: api.Inside, Frame: frames.Sent(frame)}
}

// back carries UDP and TCP from the inside to the inside, as if it had been outside in between (P14).
func (x *Box) back(frame string) api.Reply {
	endpoint, found := x.asked(frame)
	if !found {
		return api.Reply{Err: api.ErrNone}
	}
	err := passes(frame, x.config.InMTU)
	if err != api.OK {
		return x.refusal(err, api.Inside, frame, x.config.InMTU)
	}
	sent, err := x.fromBox(frame)
	if err != api.OK {
		return x.refusal(err, api.Inside, frame, x.config.InMTU)
	}
	sent = frames.WithDestination(sent, endpoint)
	return api.Reply{Side: api.Inside, Frame: frames.Sent(sent)}
}

// asked is the endpoint that is meant by the port of the box's to which a frame goes, and whether there is one.
func (x *Box) asked(frame string) (frames.End, bool) {
	destination := frames.Destination(frame)
	return x.table.Endpoint(frames.Protocol(frame), destination.Port)
}

// fromBox is a frame from the inside with the source that it has outside. With ErrFull nothing has changed.
func (x *Box) fromBox(frame string) (string, api.Errno) {
	protocol := frames.Protocol(frame)
	endpoint := frames.Source(frame)
	peer := frames.Peer(frame)
	external, err := x.table.Use(protocol, endpoint, peer, x.idle(protocol))
	if err != api.OK {
		return "", err
	}
	return frames.WithSource(frame, frames.End{Address: x.config.OutAddr, Port: external}), api.OK
}

// passes tells whether a frame may go on to a side with this MTU.
func passes(frame string, mtu int) api.Errno {
	if frames.TTL(frame) <= 1 {
		return api.ErrTTL
	}
	if frames.TotalLength(frame) > mtu {
		return api.ErrBig
	}
	return api.OK
}

// idle is how many ticks a mapping lives on when something has gone out through it.
func (x *Box) idle(protocol int) int {
	switch protocol {
	case api.UDP:
		return x.config.UDPIdle
	case api.TCP:
		return x.config.TCPIdle
	}
	return x.config.QueryIdle
}
