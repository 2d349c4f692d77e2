package layer

import (
	"parapet/agenda"
	"parapet/api"
)

// room lets only so many in at once (P11).
type room struct {
	common
	places, longest int

	taken int
	// line has the waits in the order in which they began. One that has ended, or has a cause, is no longer of the line, but stays here until a place would come to it and comes to nothing.
	line []*agenda.Wait
}

func (r *room) Enter(t *agenda.Task) (int, error) {
	switch r.place(t) {
	case agenda.TimeOver:
		return r.refuse(t)
	case agenda.Cancelled:
		return r.drop(t)
	}
	r.tell(t, api.EvTook, 0)
	defer r.leave(t)
	return r.within.Enter(t)
}

// place gets a place for the task, one that is free or one that comes to its wait; else it tells by what the waiting ended, where waiting for no time is over at once.
func (r *room) place(t *agenda.Task) agenda.Cause {
	if r.taken < r.places {
		r.taken++
		return agenda.Came
	}
	if r.longest == 0 {
		return agenda.TimeOver
	}
	r.tell(t, api.EvWaited, 0)
	if t.Cancelled() {
		return agenda.Cancelled
	}
	wait := t.StartWait(r.longest)
	r.line = append(r.line, wait)
	return wait.End()
}

// leave gives the place to the first in the line: it stays taken, so that nobody who comes before that task goes on can have it.
func (r *room) leave(t *agenda.Task) {
	r.tell(t, api.EvLeft, 0)
	for len(r.line) > 0 {
		first := r.line[0]
		r.line = r.line[1:]
		if first.Come() {
			return
		}
	}
	r.taken--
}
