package layer

import (
	"errors"

	"parapet/agenda"
	"parapet/api"
	"parapet/fault"
)

// retry tries again, with pauses that grow (P7).
type retry struct {
	common
	attempts, first, factor, longest int
}

func (r *retry) Enter(t *agenda.Task) (int, error) {
	// Capped at every step, the pause is the same as if capped once, and stays small.
	pause := min(r.first, r.longest)
	for attempt := 1; ; attempt++ {
		n, err := r.within.Enter(t)
		if err == nil || hopeless(err) {
			return n, err
		}
		if attempt == r.attempts {
			r.tell(t, api.EvGaveUp, 0)
			return 0, fault.Wrap(r.number, err)
		}
		if !r.rest(t, pause) {
			return r.drop(t)
		}
		pause = min(pause*r.factor, r.longest)
	}
}

// hopeless tells whether trying again does not help.
func hopeless(err error) bool {
	return errors.Is(err, fault.Fatal) || errors.Is(err, fault.Cancelled)
}

// rest makes a pause; false, if the task was cancelled ahead of it or in it.
func (r *retry) rest(t *agenda.Task, pause int) bool {
	r.tell(t, api.EvPaused, pause)
	if t.Cancelled() {
		return false
	}
	return pause == 0 || t.StartWait(pause).End() != agenda.Cancelled
}
