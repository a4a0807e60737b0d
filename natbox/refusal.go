package natbox

import (
	"natbox/api"
	"natbox/frames"
)

// refusal is the answer with an error of which the box may tell the frame's source, unless the frame is an error message (P12).
// The side is the one from which the frame came, the mtu that of the side to which it would have gone.
func (x *Box) refusal(err api.Errno, side int, frame string, mtu int) api.Reply {
	if !x.tells(err, frame) {
		return api.Reply{Err: err}
	}
	x.tokens--
	return api.Reply{Err: err, Side: side, Frame: frames.Told(err, x.address(side), mtu, frame)}
}

// tells keeps the box from telling too often, and of what may go on in parts.
func (x *Box) tells(err api.Errno, frame string) bool {
	if x.tokens < 1 {
		return false
	}
	return err != api.ErrBig || !frames.MayBeCut(frame)
}

// address is the box's own on a side.
func (x *Box) address(side int) int {
	if side == api.Outside {
		return x.config.OutAddr
	}
	return x.config.InAddr
}
