package layer

import (
	"fmt"
	"testing"

	"parapet/agenda"
	"parapet/api"
)

func roomLayer(places, longest int) api.Layer {
	return api.Layer{Kind: api.Room, A: places, B: longest}
}

// expectNobodyIn: in the end no place of the outermost layer, a Room, is taken.
func (s *scene) expectNobodyIn(t *testing.T) {
	t.Helper()
	if r := s.outermost.(*room); r.taken != 0 {
		t.Errorf("P11: %d places are taken in the end", r.taken)
	}
}

func TestRoomIsCancelledInItsWait(t *testing.T) {
	// Task 0 has the place, task 1 is cancelled at 3, and the place comes to task 2.
	s := newScene([]api.Layer{roomLayer(1, 9)}, api.Turn{Kind: api.TurnValue, N: 7, Takes: 5})
	s.call(0, 0)
	victim := s.call(1, 1)
	s.call(1, 2)
	s.cancel(victim, 3)
	s.expect(t, "{5 1 7 []}", "0.0.13.0 0.-1.1.0 1.0.12.0 2.0.12.0 3.0.16.0 5.-1.2.0 5.0.14.0 5.0.13.0 5.-1.1.0 10.-1.2.0 10.0.14.0")
	if got := fmt.Sprint(s.outcomes[1:3]); got != "[{3 2 0 [{5 0 0}]} {10 1 7 []}]" {
		t.Errorf("P11: outcomes %s", got)
	}
	s.expectNobodyIn(t)
}

func TestLastOfTheLineIsCancelled(t *testing.T) {
	s := newScene([]api.Layer{roomLayer(1, 9)}, api.Turn{Kind: api.TurnValue, N: 7, Takes: 5})
	s.call(0, 0)
	s.cancel(s.call(1, 1), 3)
	s.call(1, 6)
	s.expect(t, "{5 1 7 []}", "0.0.13.0 0.-1.1.0 1.0.12.0 3.0.16.0 5.-1.2.0 5.0.14.0 6.0.13.0 6.-1.1.0 11.-1.2.0 11.0.14.0")
	s.expectNobodyIn(t)
}

func TestRoomIsEnteredByACancelledTask(t *testing.T) {
	for _, c := range []struct {
		room            api.Layer
		outcome, events string
	}{
		// A place is free: it is taken as ever.
		{roomLayer(2, 9), "{9 1 7 []}", "4.0.13.0 4.-1.1.0 5.-1.2.0 5.0.14.0 9.-1.2.0 9.0.14.0"},
		{roomLayer(1, 0), "{4 2 0 [{3 0 0}]}", "4.0.7.0 5.-1.2.0 5.0.14.0"},
		{roomLayer(1, 9), "{4 2 0 [{5 0 0}]}", "4.0.12.0 4.0.16.0 5.-1.2.0 5.0.14.0"},
	} {
		s := newScene([]api.Layer{c.room}, api.Turn{Kind: api.TurnValue, N: 7, Takes: 5})
		s.call(0, 0)
		s.cancel(s.call(1, 4), 3)
		s.expect(t, "{5 1 7 []}", "0.0.13.0 0.-1.1.0 "+c.events)
		if got := fmt.Sprint(s.outcomes[1]); got != c.outcome {
			t.Errorf("P11: %v: outcome %s, want %s", c.room, got, c.outcome)
		}
		s.expectNobodyIn(t)
	}
}

// cancelBehind: the entry for the cancelling is put at 0, behind the waits that began then.
func (s *scene) cancelBehind(victim *agenda.Task, span int) {
	s.tasks.Begin(0, 0, func(other *agenda.Task) {
		other.Sleep(span)
		victim.Cancel()
	})
}

func TestCancellingAtTheTimeOfAnotherCause(t *testing.T) {
	for _, c := range []struct {
		longest int
		cancel  func(*scene, *agenda.Task, int)
		at      int
		events  string
	}{
		// Ahead of the place, which then comes to nobody; and behind it, so that the cancelled task takes it.
		{9, (*scene).cancel, 5, "5.-1.2.0 5.0.14.0 5.0.16.0"},
		{9, (*scene).cancelBehind, 5, "5.-1.2.0 5.0.14.0 5.0.13.0 5.-1.1.0 10.-1.2.0 10.0.14.0"},
		// Ahead of the end of its time, and behind that.
		{3, (*scene).cancel, 3, "3.0.16.0 5.-1.2.0 5.0.14.0"},
		{3, (*scene).cancelBehind, 3, "3.0.7.0 5.-1.2.0 5.0.14.0"},
	} {
		s := newScene([]api.Layer{roomLayer(1, c.longest)}, api.Turn{Kind: api.TurnValue, N: 7, Takes: 5})
		s.call(0, 0)
		c.cancel(s, s.call(1, 0), c.at)
		s.expect(t, "{5 1 7 []}", "0.0.13.0 0.-1.1.0 0.0.12.0 "+c.events)
		s.expectNobodyIn(t)
	}
}

func TestCancelledInsideTheRoomGivesThePlaceBack(t *testing.T) {
	s := newScene([]api.Layer{roomLayer(1, 9), retryLayer(3, 10, 1, 10)}, api.Turn{Kind: api.TurnError, N: 1}, api.Turn{Kind: api.TurnValue, N: 2})
	s.cancel(s.call(0, 0), 3)
	s.call(0, 1)
	s.expect(t, "{3 2 0 [{5 1 0}]}", "0.0.13.0 0.-1.1.0 0.-1.2.0 0.1.3.10 1.0.12.0 3.1.16.0 3.0.14.0 3.0.13.0 3.-1.1.1 3.-1.2.1 3.0.14.0")
	s.expectNobodyIn(t)
}

func TestPanicGivesThePlaceBack(t *testing.T) {
	s := newScene([]api.Layer{roomLayer(2, 9), {Kind: api.Guard}, roomLayer(1, 9)}, api.Turn{Kind: api.TurnPanic, N: 4, Takes: 2})
	for range 4 {
		s.call(0, 0)
		s.call(1, 0)
	}
	s.tasks.Run()
	s.expectNobodyIn(t)
	inner := s.outermost.(*room).within.(*guard).within.(*room)
	if inner.taken != 0 {
		t.Errorf("P11: %d places of the inner Room are taken in the end", inner.taken)
	}
}
