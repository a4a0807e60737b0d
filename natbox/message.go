package natbox

import (
	"natbox/api"
	"natbox/frames"
)

// message carries an error message to whoever sent what it quotes (P15).
// Where it cannot, the box tells nobody: messages are not answered with messages (P12).
func (x *Box) message(side int, frame string) api.Reply {
	if side == api.Outside {
		return x.messageInward(frame)
	}
	if x.isForBox(frame) {
		return x.messageBack(frame)
	}
	return x.messageOutward(frame)
}

// messageInward tells an endpoint inside of what it has sent outside.
func (x *Box) messageInward(frame string) api.Reply {
	quote := frames.Quote(frame)
	sender, found := x.sender(quote, frames.Peer(quote))
	if !found {
		return api.Reply{Err: api.ErrNone}
	}
	err := passes(frame, x.config.InMTU)
	if err != api.OK {
		return api.Reply{Err: err}
	}
	frame = frames.WithDestinationAddress(frame, sender.Address)
	frame = frames.WithQuote(frame, frames.WithSource(quote, sender))
	return api.Reply{Side: api.Inside, Frame: frames.Sent(frame)}
}

// messageOutward tells a host outside of what it has sent to an endpoint inside.
func (x *Box) messageOutward(frame string) api.Reply {
	quote := frames.Quote(frame)
	receiver, found := x.receiver(quote)
	if !found || frames.DestinationAddress(frame) != frames.SourceAddress(quote) {
		return api.Reply{Err: api.ErrNone}
	}
	err := passes(frame, x.config.OutMTU)
	if err != api.OK {
		return api.Reply{Err: err}
	}
	frame = frames.WithSourceAddress(frame, x.config.OutAddr)
	frame = frames.WithQuote(frame, frames.WithDestination(quote, receiver))
	return api.Reply{Side: api.Outside, Frame: frames.Sent(frame)}
}

// messageBack tells an endpoint inside of what it has sent to another one inside by way of the box.
func (x *Box) messageBack(frame string) api.Reply {
	quote := frames.Quote(frame)
	receiver, received := x.receiver(quote)
	sender, sent := x.sender(quote, receiver)
	// No query has gone that way.
	if frames.Protocol(quote) == api.ICMP || !received || !sent {
		return api.Reply{Err: api.ErrNone}
	}
	err := passes(frame, x.config.InMTU)
	if err != api.OK {
		return api.Reply{Err: err}
	}
	frame = frames.WithSourceAddress(frame, x.config.OutAddr)
	frame = frames.WithDestinationAddress(frame, sender.Address)
	quote = frames.WithDestination(quote, receiver)
	frame = frames.WithQuote(frame, frames.WithSource(quote, sender))
	return api.Reply{Side: api.Inside, Frame: frames.Sent(frame)}
}

// sender is the endpoint inside from which a quoted frame came, and whether there is one that has sent to this peer.
func (x *Box) sender(quote string, peer frames.End) (frames.End, bool) {
	source := frames.Source(quote)
	if source.Address != x.config.OutAddr {
		return frames.End{}, false
	}
	return x.table.Sender(frames.Protocol(quote), source.Port, peer)
}

// receiver is what the endpoint inside to which a quoted frame came is for others, and whether there is such an endpoint.
func (x *Box) receiver(quote string) (frames.End, bool) {
	external, found := x.table.External(frames.Protocol(quote), frames.Destination(quote))
	return frames.End{Address: x.config.OutAddr, Port: external}, found
}
