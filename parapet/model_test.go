package parapet

import (
	"math/rand"
	"reflect"
	"testing"

	"parapet/api"
)

// step of a call through layers Retry and Guard: an event, or a wait if it takes time. As such calls don't touch each other, the steps of each can be written down ahead of all running.
type step struct {
	takes int
	event api.Event
}

// script: the steps of one client's call, as the document says them, without tasks, errors or panics.
type script struct {
	layers []api.Layer
	client int
	turns  []api.Turn
	had    int
	steps  []step
}

func (s *script) tell(layer, what, n int) {
	s.steps = append(s.steps, step{event: api.Event{Client: s.client, Layer: layer, What: what, N: n}})
}

func (s *script) wait(span int) {
	if span > 0 {
		s.steps = append(s.steps, step{takes: span})
	}
}

func (s *script) backend() api.Outcome {
	turn, number := value(0, 0), s.had
	if number < len(s.turns) {
		turn = s.turns[number]
	}
	s.had++
	s.tell(-1, api.EvBegan, number)
	s.wait(turn.Takes)
	s.tell(-1, api.EvEnded, number)
	switch turn.Kind {
	case api.TurnError:
		return api.Outcome{Kind: api.ByError, Chain: []api.Link{{Kind: api.LinkFailed, Layer: -1, N: turn.N}}}
	case api.TurnFinal:
		return api.Outcome{Kind: api.ByError, Chain: []api.Link{{Kind: api.LinkFatal, Layer: -1, N: turn.N}}}
	case api.TurnPanic:
		return api.Outcome{Kind: api.ByPanic, N: turn.N}
	}
	return api.Outcome{Kind: api.ByValue, N: turn.N}
}

func (s *script) enter(layer int) api.Outcome {
	if layer == len(s.layers) {
		return s.backend()
	}
	l := s.layers[layer]
	if l.Kind == api.Guard {
		o := s.enter(layer + 1)
		if o.Kind == api.ByPanic {
			s.tell(layer, api.EvCaught, o.N)
			return api.Outcome{Kind: api.ByError, Chain: []api.Link{{Kind: api.LinkCaught, Layer: layer, N: o.N}}}
		}
		return o
	}
	power := 1
	for attempt := 1; ; attempt++ {
		o := s.enter(layer + 1)
		if o.Kind != api.ByError || o.Chain[len(o.Chain)-1].Kind == api.LinkFatal {
			return o
		}
		if attempt == l.A {
			s.tell(layer, api.EvGaveUp, 0)
			return api.Outcome{Kind: api.ByError, Chain: append([]api.Link{{Kind: api.LinkGaveUp, Layer: layer}}, o.Chain...)}
		}
		s.tell(layer, api.EvPaused, min(l.B*power, l.D))
		s.wait(min(l.B*power, l.D))
		power *= l.C
	}
}

// modelRun plays the scripts of all clients side by side: of all that go on next, the one of the least time, and of these the one that has waited for its turn longest.
func modelRun(layers []api.Layer, clients []api.Client) api.Report {
	type next struct{ at, put, client int }
	var report api.Report
	var agenda []next
	scripts := make([]script, len(clients))
	put := 0
	add := func(at, client int) {
		agenda = append(agenda, next{at, put, client})
		put++
	}
	for i, c := range clients {
		scripts[i] = script{layers: layers, client: i, turns: c.Turns}
		report.Outcomes = append(report.Outcomes, scripts[i].enter(0))
		add(c.Start, i)
	}
	for len(agenda) > 0 {
		least := 0
		for i, n := range agenda {
			if n.at < agenda[least].at || n.at == agenda[least].at && n.put < agenda[least].put {
				least = i
			}
		}
		n := agenda[least]
		agenda = append(agenda[:least], agenda[least+1:]...)
		s := &scripts[n.client]
		for len(s.steps) > 0 && s.steps[0].takes == 0 {
			s.steps[0].event.At = n.at
			report.Events = append(report.Events, s.steps[0].event)
			s.steps = s.steps[1:]
		}
		if len(s.steps) == 0 {
			report.Outcomes[n.client].At = n.at
			continue
		}
		add(n.at+s.steps[0].takes, n.client)
		s.steps = s.steps[1:]
	}
	return report
}

func someLayers(r *rand.Rand) []api.Layer {
	var layers []api.Layer
	retries := 0
	for range r.Intn(api.MaxLayers + 1) {
		if retries < api.MaxRetries && r.Intn(2) == 0 {
			retries++
			layers = append(layers, layerOf(api.Retry, 1+r.Intn(4), r.Intn(4), 1+r.Intn(3), r.Intn(12)))
		} else {
			layers = append(layers, layerOf(api.Guard))
		}
	}
	return layers
}

func someClients(r *rand.Rand) []api.Client {
	var clients []api.Client
	for range r.Intn(api.MaxClients + 1) {
		c := clientAt(r.Intn(6))
		for range r.Intn(api.MaxTurns + 1) {
			kinds := []int{api.TurnValue, api.TurnError, api.TurnError, api.TurnError, api.TurnError, api.TurnFinal, api.TurnPanic}
			c.Turns = append(c.Turns, api.Turn{Kind: kinds[r.Intn(len(kinds))], N: r.Intn(9) - 4, Takes: r.Intn(4)})
		}
		clients = append(clients, c)
	}
	return clients
}

func sameReport(a, b api.Report) bool {
	return outcomeTexts(a.Outcomes) == outcomeTexts(b.Outcomes) && len(a.Outcomes) == len(b.Outcomes) && len(a.Events) == len(b.Events) && (len(a.Events) == 0 || reflect.DeepEqual(a.Events, b.Events))
}

func TestRunIsAsTheModelSays(t *testing.T) {
	r := rand.New(rand.NewSource(1))
	for range 3000 {
		layers, clients := someLayers(r), someClients(r)
		got, e, at := Run(layers, clients)
		if want := modelRun(layers, clients); e != api.OK || at != 0 || !sameReport(got, want) {
			t.Fatalf("P4 to P8: %v\n%v\nerror %d at %d\n%s\n%s\nwant\n%s\n%s", layers, clients, e, at, outcomeTexts(got.Outcomes), eventTexts(got.Events), outcomeTexts(want.Outcomes), eventTexts(want.Events))
		}
	}
}
