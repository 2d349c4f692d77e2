// Package layer: the layers and the backend within them, and what comes back out of them.
package layer

import (
	"parapet/agenda"
	"parapet/api"
	"parapet/fault"
)

// Layer is entered by a task, and a value, an error or a panic comes back out of it.
type Layer interface {
	Enter(t *agenda.Task) (int, error)
}

// Journal has the events in the order in which they happened.
type Journal struct {
	Events []api.Event
}

// common is what all layers have.
type common struct {
	within  Layer
	number  int
	journal *Journal
}

func (c *common) tell(t *agenda.Task, what, n int) {
	c.journal.Events = append(c.journal.Events, api.Event{At: t.Now(), Client: t.Client(), Layer: c.number, What: what, N: n})
}

// fail makes an error of this layer.
func (c *common) fail(kind fault.Kind, n int) (int, error) {
	return 0, fault.New(kind, c.number, n)
}

// refuse keeps a task from going on inwards.
func (c *common) refuse(t *agenda.Task) (int, error) {
	c.tell(t, api.EvRefused, 0)
	return c.fail(fault.Refused, 0)
}

// drop gives a task up that was cancelled.
func (c *common) drop(t *agenda.Task) (int, error) {
	c.tell(t, api.EvDropped, 0)
	return c.fail(fault.Cancelled, 0)
}

// Stack lays the layers around the backend and gives the outermost.
func Stack(layers []api.Layer, clients []api.Client, journal *Journal) Layer {
	outermost := newBackend(clients, journal)
	for number := len(layers) - 1; number >= 0; number-- {
		outermost = newLayer(layers[number], common{outermost, number, journal})
	}
	return outermost
}

func newLayer(l api.Layer, c common) Layer {
	switch l.Kind {
	case api.Retry:
		return &retry{common: c, attempts: l.A, first: l.B, factor: l.C, longest: l.D}
	case api.Guard:
		return &guard{c}
	case api.Rate:
		return &rate{common: c, interval: l.A, burst: l.B}
	case api.Breaker:
		return &breaker{common: c, window: l.A, least: l.B, percent: l.C, stays: l.D, probes: l.E}
	case api.Room:
		return &room{common: c, places: l.A, longest: l.B}
	}
	// Of the kinds that there are, this one is left.
	return &limit{common: c, longest: l.A}
}

// answer is what came back, so that it can be looked at, a panic too, and handed from task to task.
type answer struct {
	n     int
	err   error
	blown any
}

// answerOf lets a task go on inwards, and catches what comes back.
func answerOf(within Layer, t *agenda.Task) (a answer) {
	defer func() { a.blown = recover() }()
	a.n, a.err = within.Enter(t)
	return a
}

// goOutwards lets what came back go on as it is.
func (a answer) goOutwards() (int, error) {
	if a.blown != nil {
		panic(a.blown)
	}
	return a.n, a.err
}

// Call lets a task go through the layers, and tells as what it came back.
func Call(outermost Layer, t *agenda.Task) api.Outcome {
	a := answerOf(outermost, t)
	switch {
	case a.blown != nil:
		return api.Outcome{At: t.Now(), Kind: api.ByPanic, N: numberOf(a.blown)}
	case a.err != nil:
		return api.Outcome{At: t.Now(), Kind: api.ByError, Chain: fault.Chain(a.err)}
	}
	return api.Outcome{At: t.Now(), Kind: api.ByValue, N: a.n}
}
