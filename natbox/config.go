package natbox

import (
	"natbox/api"
	"natbox/frames"
)

func configHolds(c api.Config) bool {
	return addressesHold(c) && portsHold(c) && limitsHold(c)
}

func addressesHold(c api.Config) bool {
	return frames.Usable(c.InAddr) && frames.Usable(c.OutAddr) && c.InAddr != c.OutAddr
}

func portsHold(c api.Config) bool {
	return c.Low >= 1 && c.High <= 65535 && c.Low <= c.High
}

func limitsHold(c api.Config) bool {
	return within(c.Capacity, 1, api.MaxCapacity) &&
		within(c.InMTU, api.MinMTU, api.MaxMTU) &&
		within(c.OutMTU, api.MinMTU, api.MaxMTU) &&
		within(c.UDPIdle, 1, api.MaxIdle) &&
		within(c.TCPIdle, 1, api.MaxIdle) &&
		within(c.QueryIdle, 1, api.MaxIdle) &&
		within(c.Burst, 0, api.MaxBucket) &&
		within(c.Rate, 0, api.MaxBucket)
}

func within(n int, low int, high int) bool {
	return n >= low && n <= high
}
