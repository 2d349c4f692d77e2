package layer

import (
	"fmt"
	"testing"

	"parapet/agenda"
	"parapet/api"
)

func limitLayer(longest int) api.Layer {
	return api.Layer{Kind: api.Limit, A: longest}
}

func TestLimitIsEnteredByACancelledTask(t *testing.T) {
	// It does not wait, and no new task begins: the client's first turn is left for its next call.
	s := newScene([]api.Layer{limitLayer(9)}, api.Turn{Kind: api.TurnValue, N: 7, Takes: 2})
	s.cancel(s.call(0, 4), 3)
	s.call(0, 5)
	s.expect(t, "{4 2 0 [{5 0 0}]}", "4.0.16.0 5.-1.1.0 7.-1.2.0")
	if got := fmt.Sprint(s.outcomes[2]); got != "{7 1 7 []}" {
		t.Errorf("P12: the next call's outcome %s", got)
	}
}

func TestLimitIsCancelledInItsWait(t *testing.T) {
	// The turn's end comes to nothing, be it a value, an error or a panic.
	for kind := api.TurnValue; kind <= api.TurnPanic; kind++ {
		s := newScene([]api.Layer{{Kind: api.Guard}, limitLayer(9)}, api.Turn{Kind: kind, N: 7, Takes: 5})
		s.cancel(s.call(0, 0), 2)
		s.expect(t, "{2 2 0 [{5 1 0}]}", "0.-1.1.0 2.1.16.0 5.-1.2.0")
	}
}

func TestLimitIsCancelledAtTheTimeOfAnotherCause(t *testing.T) {
	for _, c := range []struct {
		longest, begins, at int
		outcome, events     string
	}{
		// Ahead of what comes back, and behind it.
		{9, 0, 5, "{5 2 0 [{5 0 0}]}", "0.-1.1.0 5.-1.2.0 5.0.16.0"},
		{9, 1, 5, "{5 1 7 []}", "0.-1.1.0 5.-1.2.0"},
		// Ahead of the end of its time, and behind that.
		{3, -1, 3, "{3 2 0 [{5 0 0}]}", "0.-1.1.0 3.0.16.0 5.-1.2.0"},
		{3, 1, 3, "{3 2 0 [{4 0 0}]}", "0.-1.1.0 3.0.15.0 5.-1.2.0"},
	} {
		s := newScene([]api.Layer{limitLayer(c.longest)}, api.Turn{Kind: api.TurnValue, N: 7, Takes: 5})
		victim := s.call(0, 0)
		// What was put on the agenda when this begins comes ahead of the cancelling.
		if c.begins < 0 {
			s.cancel(victim, c.at)
		} else {
			s.tasks.Begin(0, c.begins, func(other *agenda.Task) {
				other.Sleep(c.at - c.begins)
				victim.Cancel()
			})
		}
		s.expect(t, c.outcome, c.events)
	}
}

func TestNewTaskIsCancelledAheadOfItsBeginning(t *testing.T) {
	for _, c := range []struct {
		within api.Layer
		events string
	}{
		{limitLayer(9), "0.1.16.0 0.0.16.0"},
		{retryLayer(3, 5, 1, 5), "0.-1.1.0 0.-1.2.0 0.1.3.5 0.1.16.0 0.0.16.0"},
		{retryLayer(1, 5, 1, 5), "0.-1.1.0 0.-1.2.0 0.1.4.0 0.0.16.0"},
		{roomLayer(1, 9), "0.1.13.0 0.-1.1.0 0.-1.2.0 0.1.14.0 0.0.16.0"},
		{breakerLayer(1, 1, 100, 9, 1), "0.1.8.0 0.-1.1.0 0.-1.2.0 0.1.9.0 0.0.16.0"},
	} {
		s := newScene([]api.Layer{limitLayer(9), c.within}, api.Turn{Kind: api.TurnError, N: 7})
		// Its entry was put on the agenda ahead of the new task's.
		s.cancel(s.call(0, 0), 0)
		s.expect(t, "{0 2 0 [{5 0 0}]}", c.events)
	}
}

func TestCancelledTaskComesToALimitWithinARoom(t *testing.T) {
	// The place comes to task 1 at 5, and then it is cancelled.
	s := newScene([]api.Layer{roomLayer(1, 9), limitLayer(9)}, api.Turn{Kind: api.TurnValue, N: 7, Takes: 5})
	s.call(0, 0)
	victim := s.call(1, 1)
	s.tasks.Begin(0, 4, func(other *agenda.Task) {
		other.Sleep(1)
		other.StartWait(0).End()
		victim.Cancel()
	})
	s.expect(t, "{5 1 7 []}", "0.0.13.0 0.-1.1.0 1.0.12.0 5.-1.2.0 5.0.14.0 5.0.13.0 5.1.16.0 5.0.14.0")
	if got := fmt.Sprint(s.outcomes[1]); got != "{5 2 0 [{5 1 0}]}" {
		t.Errorf("P12: outcome %s", got)
	}
	s.expectNobodyIn(t)
}

func TestPanicOfTheNewTaskGoesOn(t *testing.T) {
	s := newScene([]api.Layer{limitLayer(3), limitLayer(3)}, api.Turn{Kind: api.TurnPanic, N: -4, Takes: 2})
	s.tasks.Begin(0, 0, func(task *agenda.Task) {
		defer func() {
			if n := numberOf(recover()); n != -4 || task.Now() != 2 {
				t.Errorf("P12: at %d it blew up with %d", task.Now(), n)
			}
		}()
		s.outermost.Enter(task)
		t.Error("P12: it did not blow up")
	})
	s.tasks.Run()
}
