package natbox

import (
	"encoding/hex"
	"testing"

	"natbox/api"
)

// So far no error message comes as far as these errors: that none is answered with another can be seen from within alone.
func TestP12NoMessageAboutAMessage(t *testing.T) {
	x, e := New(api.Config{InAddr: 0x0a000001, OutAddr: 0xcb007109, Low: 1, High: 9, Capacity: 1, InMTU: 100, OutMTU: 100, UDPIdle: 1, TCPIdle: 1, QueryIdle: 1, Burst: 9, Rate: 1})
	if e != api.OK {
		t.Fatal(e)
	}
	uncut, e2 := hex.DecodeString("45000038000040003c0140bac0000201cb0071090301282800000000" + "45000020000000003f111589cb007109c63364079c400035000c3855")
	if e2 != nil || Check(string(uncut)) != api.OK {
		t.Fatal("no frame")
	}
	for _, kind := range []byte{3, 11, 12} {
		uncut[20] = kind
		for _, err := range []api.Errno{api.ErrTTL, api.ErrBig, api.ErrFull} {
			for side := range 2 {
				if r := x.refusal(err, side, string(uncut), 100); r != (api.Reply{Err: err}) || x.Tokens() != 9 {
					t.Errorf("type %d, error %d: %d, %d, %x; %d tokens", kind, err, r.Err, r.Side, r.Frame, x.Tokens())
				}
			}
		}
	}
}
