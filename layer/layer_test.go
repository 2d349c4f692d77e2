package layer

import (
	"errors"
	"fmt"
	"slices"
	"strings"
	"testing"

	"parapet/agenda"
	"parapet/api"
	"parapet/fault"
)

// scene: tasks that go through layers, and others that cancel them.
type scene struct {
	tasks     *agenda.Agenda
	journal   Journal
	outermost Layer
	outcomes  []api.Outcome
}

func newScene(layers []api.Layer, turns ...api.Turn) *scene {
	s := &scene{tasks: agenda.New(), outcomes: make([]api.Outcome, 9)}
	s.outermost = Stack(layers, []api.Client{{Turns: turns}, {Turns: turns}}, &s.journal)
	return s
}

func (s *scene) call(client, at int) *agenda.Task {
	return s.tasks.Begin(client, at, func(t *agenda.Task) { s.outcomes[t.Number()] = Call(s.outermost, t) })
}

func (s *scene) cancel(victim *agenda.Task, at int) {
	s.tasks.Begin(0, at, func(*agenda.Task) { victim.Cancel() })
}

// expect: the outcome of the first task, and the events as time, layer, what, number.
func (s *scene) expect(t *testing.T, outcome, events string) {
	t.Helper()
	s.tasks.Run()
	if got := fmt.Sprint(s.outcomes[0]); got != outcome {
		t.Errorf("outcome %s, want %s", got, outcome)
	}
	var told []string
	for _, e := range s.journal.Events {
		told = append(told, fmt.Sprint(e.At, ".", e.Layer, ".", e.What, ".", e.N))
	}
	if got := strings.Join(told, " "); got != events {
		t.Errorf("events %s\n  want %s", got, events)
	}
}

func retryLayer(attempts, first, factor, longest int) api.Layer {
	return api.Layer{Kind: api.Retry, A: attempts, B: first, C: factor, D: longest}
}

func breakerLayer(window, least, percent, stays, probes int) api.Layer {
	return api.Layer{Kind: api.Breaker, A: window, B: least, C: percent, D: stays, E: probes}
}

func TestRetryIsCancelledInItsPause(t *testing.T) {
	s := newScene([]api.Layer{{Kind: api.Guard}, retryLayer(3, 10, 1, 10)}, api.Turn{Kind: api.TurnError, N: 1, Takes: 2})
	s.cancel(s.call(0, 0), 7)
	s.expect(t, "{7 2 0 [{5 1 0}]}", "0.-1.1.0 2.-1.2.0 2.1.3.10 7.1.16.0")
}

func TestRetryIsCancelledAheadOfItsPause(t *testing.T) {
	for _, longest := range []int{10, 0} {
		s := newScene([]api.Layer{retryLayer(3, 10, 1, longest)}, api.Turn{Kind: api.TurnError, N: 1, Takes: 5})
		s.cancel(s.call(0, 0), 3)
		s.expect(t, "{5 2 0 [{5 0 0}]}", fmt.Sprintf("0.-1.1.0 5.-1.2.0 5.0.3.%d 5.0.16.0", longest))
	}
}

func TestRetryIsCancelledAtTheEndOfItsPause(t *testing.T) {
	turn := api.Turn{Kind: api.TurnError, N: 1}
	s := newScene([]api.Layer{retryLayer(2, 4, 1, 4)}, turn, turn)
	s.cancel(s.call(0, 0), 4)
	s.expect(t, "{4 2 0 [{5 0 0}]}", "0.-1.1.0 0.-1.2.0 0.0.3.4 4.0.16.0")

	s = newScene([]api.Layer{retryLayer(2, 4, 1, 4)}, turn, turn)
	victim := s.call(0, 0)
	s.tasks.Begin(0, 0, func(other *agenda.Task) {
		other.Sleep(4)
		victim.Cancel()
	})
	s.expect(t, "{4 2 0 [{7 0 0} {1 -1 1}]}", "0.-1.1.0 0.-1.2.0 0.0.3.4 4.-1.1.1 4.-1.2.1 4.0.4.0")
}

func TestCancelledTaskGivesUpAtItsLastAttempt(t *testing.T) {
	s := newScene([]api.Layer{retryLayer(1, 4, 1, 4)}, api.Turn{Kind: api.TurnError, N: 1, Takes: 2})
	s.cancel(s.call(0, 0), 1)
	s.expect(t, "{2 2 0 [{7 0 0} {1 -1 1}]}", "0.-1.1.0 2.-1.2.0 2.0.4.0")
}

func TestRetryDoesNotTryAgainAtCancelled(t *testing.T) {
	s := newScene([]api.Layer{retryLayer(9, 1, 1, 1), retryLayer(9, 5, 1, 5)}, api.Turn{Kind: api.TurnError, N: 1})
	s.cancel(s.call(0, 0), 3)
	s.expect(t, "{3 2 0 [{5 1 0}]}", "0.-1.1.0 0.-1.2.0 0.1.3.5 3.1.16.0")
}

// expectAsked: of which last links, behind a GaveUp too, a layer gets the answer yes when it asks.
func expectAsked(t *testing.T, asks func(error) bool, yes ...fault.Kind) {
	t.Helper()
	for _, kind := range []fault.Kind{fault.Failed, fault.Fatal, fault.Refused, fault.Late, fault.Cancelled, fault.Caught} {
		for _, err := range []error{fault.New(kind, 2, 1), fault.Wrap(1, fault.New(kind, 2, 1))} {
			if want := slices.Contains(yes, kind); asks(err) != want {
				t.Errorf("%v: %v, want %v", err, !want, want)
			}
		}
	}
}

func TestLayersLookAtTheWholeChain(t *testing.T) {
	expectAsked(t, hopeless, fault.Fatal, fault.Cancelled)
	expectAsked(t, saysNothing, fault.Refused, fault.Cancelled)
	if saysNothing(nil) {
		t.Error("P10: what is no error counts")
	}
}

func TestCancelledDoesNotCountInABreaker(t *testing.T) {
	s := newScene([]api.Layer{breakerLayer(1, 1, 100, 9, 1), retryLayer(3, 10, 1, 10)}, api.Turn{Kind: api.TurnError, N: 1}, api.Turn{Kind: api.TurnFinal, N: 2})
	s.cancel(s.call(0, 0), 3)
	s.call(0, 4)
	s.expect(t, "{3 2 0 [{5 1 0}]}", "0.0.8.0 0.-1.1.0 0.-1.2.0 0.1.3.10 3.1.16.0 4.0.8.0 4.-1.1.1 4.-1.2.1 4.0.9.0")
}

func TestCancelledIsAProbeLess(t *testing.T) {
	s := newScene([]api.Layer{breakerLayer(1, 1, 100, 1, 1), retryLayer(3, 10, 1, 10)}, api.Turn{Kind: api.TurnFinal, N: 1}, api.Turn{Kind: api.TurnError, N: 2})
	s.call(0, 0)
	s.cancel(s.call(0, 1), 3)
	s.call(1, 2)
	s.call(1, 4)
	s.expect(t, "{0 2 0 [{2 -1 1}]}", "0.0.8.0 0.-1.1.0 0.-1.2.0 0.0.9.0 1.0.10.0 1.0.8.0 1.-1.1.1 1.-1.2.1 1.1.3.10 2.0.7.0 3.1.16.0 4.0.8.0 4.-1.1.0 4.-1.2.0 4.0.9.0")
}

func TestBackendIsNotCancelled(t *testing.T) {
	s := newScene(nil, api.Turn{Kind: api.TurnValue, N: 3, Takes: 9})
	s.cancel(s.call(0, 0), 2)
	s.expect(t, "{9 1 3 []}", "0.-1.1.0 9.-1.2.0")
}

func TestTurnsAreCountedForEachClientOverAllItsTasks(t *testing.T) {
	s := newScene(nil, api.Turn{Kind: api.TurnValue, N: 3, Takes: 5}, api.Turn{Kind: api.TurnValue, N: 4, Takes: 1})
	s.call(0, 0)
	s.call(0, 1)
	s.call(1, 2)
	s.expect(t, "{5 1 3 []}", "0.-1.1.0 1.-1.1.1 2.-1.1.0 2.-1.2.1 5.-1.2.0 7.-1.2.0")
	if s.outcomes[1].N != 4 || s.outcomes[2].N != 3 {
		t.Errorf("P6: values %d and %d", s.outcomes[1].N, s.outcomes[2].N)
	}
}

func TestTurnsBehindTheLastOneAreCountedToo(t *testing.T) {
	s := newScene(nil, api.Turn{Kind: api.TurnValue, N: 3, Takes: 5})
	for at := range 3 {
		s.call(0, at)
	}
	s.expect(t, "{5 1 3 []}", "0.-1.1.0 1.-1.1.1 1.-1.2.1 2.-1.1.2 2.-1.2.2 5.-1.2.0")
	if s.outcomes[1].N != 0 || s.outcomes[2].N != 0 {
		t.Errorf("P6: values %d and %d", s.outcomes[1].N, s.outcomes[2].N)
	}
}

func TestBackendPanicsAndGuardRecovers(t *testing.T) {
	s := newScene(nil, api.Turn{Kind: api.TurnPanic, N: -4})
	s.tasks.Begin(0, 0, func(task *agenda.Task) {
		defer func() {
			if n := numberOf(recover()); n != -4 {
				t.Errorf("P6: the backend blew up with %d", n)
			}
		}()
		s.outermost.Enter(task)
		t.Error("P6: the backend did not blow up")
	})
	s.tasks.Run()

	s = newScene([]api.Layer{{Kind: api.Guard}}, api.Turn{Kind: api.TurnPanic, N: -4})
	s.tasks.Begin(0, 0, func(task *agenda.Task) {
		if n, err := s.outermost.Enter(task); n != 0 || !errors.Is(err, fault.Caught) {
			t.Errorf("P8: %d and %v came back", n, err)
		}
	})
	s.tasks.Run()
}
