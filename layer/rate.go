package layer

import (
	"parapet/agenda"
	"parapet/api"
)

// rate lets only so many calls through in a time (P9).
type rate struct {
	common
	interval, burst int
	// next is 0 at first, which is as good as below every time: no time is below 0.
	next int
}

func (r *rate) Enter(t *agenda.Task) (int, error) {
	if r.next-t.Now() > (r.burst-1)*r.interval {
		return r.refuse(t)
	}
	r.next = max(r.next, t.Now()) + r.interval
	r.tell(t, api.EvAdmitted, 0)
	return r.within.Enter(t)
}
