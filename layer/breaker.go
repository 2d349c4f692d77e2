package layer

import (
	"errors"

	"parapet/agenda"
	"parapet/api"
	"parapet/fault"
)

// state of a breaker.
type state int

const (
	closed state = iota
	opened
	halfOpen
)

// breaker keeps calls away from a backend that fails (P10).
type breaker struct {
	common
	window, least, percent, stays, probes int

	state  state
	since  int // the time at which the period began
	period int // how many periods have ended
	inside int // the probes of this period
	// failures tells of each that counted in this period whether it failed; when closed, of the last ones alone.
	failures []bool
}

func (b *breaker) Enter(t *agenda.Task) (n int, err error) {
	if !b.letsIn(t) {
		return b.refuse(t)
	}
	b.tell(t, api.EvPassed, 0)
	period, failed := b.period, true
	// Nothing is recovered: a panic leaves failed as it is, counts, and goes on outwards.
	defer func() {
		if b.period == period {
			b.cameBack(t, failed, err)
		}
	}()
	n, err = b.within.Enter(t)
	failed = err != nil
	return n, err
}

// letsIn makes an open breaker half open, once its time is over, and takes a probe of one that is half open.
func (b *breaker) letsIn(t *agenda.Task) bool {
	if b.state == opened && t.Now()-b.since >= b.stays {
		b.become(halfOpen, t, api.EvHalved)
	}
	switch b.state {
	case opened:
		return false
	case halfOpen:
		if b.inside == b.probes {
			return false
		}
		b.inside++
	}
	return true
}

// become begins a new period.
func (b *breaker) become(s state, t *agenda.Task, what int) {
	b.state, b.since = s, t.Now()
	b.period++
	b.inside, b.failures = 0, nil
	b.tell(t, what, 0)
}

// cameBack is for what came back in the period in which it was let in: then the breaker isn't open, as nothing is let in while it is.
func (b *breaker) cameBack(t *agenda.Task, failed bool, err error) {
	if saysNothing(err) {
		if b.state == halfOpen {
			b.inside--
		}
		return
	}
	b.failures = append(b.failures, failed)
	if b.state == closed {
		b.judgeWindow(t)
	} else {
		b.judgeProbes(t)
	}
}

// saysNothing: an error of a layer that kept the call from the backend, or broke it off. Such links are always the last of their chain, so that it is enough to ask whether there is one.
func saysNothing(err error) bool {
	return errors.Is(err, fault.Refused) || errors.Is(err, fault.Cancelled)
}

func (b *breaker) judgeWindow(t *agenda.Task) {
	b.failures = b.failures[max(0, len(b.failures)-b.window):]
	if len(b.failures) >= b.least && b.failsTooOften() {
		b.become(opened, t, api.EvOpened)
	}
}

func (b *breaker) judgeProbes(t *agenda.Task) {
	if len(b.failures) < b.probes {
		return
	}
	if b.failsTooOften() {
		b.become(opened, t, api.EvOpened)
	} else {
		b.become(closed, t, api.EvClosed)
	}
}

func (b *breaker) failsTooOften() bool {
	count := 0
	for _, failed := range b.failures {
		if failed {
			count++
		}
	}
	return 100*count >= b.percent*len(b.failures)
}
