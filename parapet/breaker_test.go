package parapet

import (
	"testing"

	"parapet/api"
)

func TestBreakerOpensHalvesAndCloses(t *testing.T) {
	expectRun(t, stack(layerOf(api.Guard), layerOf(api.Breaker, 4, 2, 50, 20, 1)),
		[]api.Client{clientAt(0, fails(1, 0)), clientAt(1, final(2, 0)), clientAt(2, value(3, 0)), clientAt(21, value(4, 1)), clientAt(23, value(5, 0))},
		[]string{"{0 2 0 [{1 -1 1}]}", "{1 2 0 [{2 -1 2}]}", "{2 2 0 [{3 1 0}]}", "{22 1 4 []}", "{23 1 5 []}"},
		"0 c0 l1 Passed 0", "0 c0 l-1 Began 0", "0 c0 l-1 Ended 0",
		"1 c1 l1 Passed 0", "1 c1 l-1 Began 0", "1 c1 l-1 Ended 0", "1 c1 l1 Opened 0",
		"2 c2 l1 Refused 0",
		"21 c3 l1 Halved 0", "21 c3 l1 Passed 0", "21 c3 l-1 Began 0", "22 c3 l-1 Ended 0", "22 c3 l1 Closed 0",
		"23 c4 l1 Passed 0", "23 c4 l-1 Began 0", "23 c4 l-1 Ended 0")
}

// opensAt tells when a breaker that is open for long opened, of clients that come one a step; -1, if never.
func opensAt(t *testing.T, l api.Layer, turns ...api.Turn) int {
	t.Helper()
	r, e, _ := Run(stack(l), oneEach(turns...))
	times := timesOf(eventsOf(r.Events, 0), api.EvOpened)
	if e != api.OK || len(times) > 1 {
		t.Errorf("P10: %v: error %d, opened at %v", l, e, times)
	}
	if len(times) == 0 {
		return -1
	}
	return times[0]
}

func TestBreakerLooksAtTheLastThatCounted(t *testing.T) {
	f, v := fails(1, 0), value(1, 0)
	for _, c := range []struct {
		layer api.Layer
		turns []api.Turn
		want  int
	}{
		// Two of the last three; with one more or all of them in the window it would be too few.
		{layerOf(api.Breaker, 3, 3, 66, 1000, 1), []api.Turn{f, v, v, f, f}, 4},
		{layerOf(api.Breaker, 3, 3, 67, 1000, 1), []api.Turn{f, v, v, f, f}, -1},
		// A failure that is out of the window is forgotten.
		{layerOf(api.Breaker, 2, 2, 100, 1000, 1), []api.Turn{f, v, f, v, f, v}, -1},
		{layerOf(api.Breaker, 2, 1, 100, 1000, 1), []api.Turn{v, f, f}, 2},
		{layerOf(api.Breaker, 3, 2, 60, 1000, 1), []api.Turn{v, f, v, f}, 3},
		// Fewer than B that counted don't open it, whatever they are.
		{layerOf(api.Breaker, 4, 3, 1, 1000, 1), []api.Turn{f, f}, -1},
		{layerOf(api.Breaker, 4, 3, 1, 1000, 1), []api.Turn{f, f, f}, 2},
		{layerOf(api.Breaker, 9, 9, 1, 1000, 1), []api.Turn{f, f, f, f, f, f, f, f, f}, 8},
		{layerOf(api.Breaker, 20, 10, 1, 1000, 1), []api.Turn{f, f, f, f, f, f, f, f, f}, -1},
		// A value opens it, if with it there are B.
		{layerOf(api.Breaker, 4, 3, 66, 1000, 1), []api.Turn{f, f, v}, 2},
		{layerOf(api.Breaker, 4, 3, 67, 1000, 1), []api.Turn{f, f, v}, -1},
		// Just C percent, and less.
		{layerOf(api.Breaker, 4, 4, 25, 1000, 1), []api.Turn{v, f, v, v}, 3},
		{layerOf(api.Breaker, 4, 4, 26, 1000, 1), []api.Turn{v, f, v, v}, -1},
		{layerOf(api.Breaker, 3, 3, 33, 1000, 1), []api.Turn{f, v, v}, 2},
		{layerOf(api.Breaker, 3, 3, 34, 1000, 1), []api.Turn{f, v, v}, -1},
		{layerOf(api.Breaker, 3, 3, 100, 1000, 1), []api.Turn{f, f, f}, 2},
		{layerOf(api.Breaker, 1, 1, 1, 1000, 1), []api.Turn{v, v, v, f}, 3},
		{layerOf(api.Breaker, 1, 1, 1, 1000, 1), []api.Turn{v, v, v, v}, -1},
		// A failure is an error of any kind, or a panic.
		{layerOf(api.Breaker, 2, 2, 100, 1000, 1), []api.Turn{v, final(1, 0), blows(0, 0)}, 2},
	} {
		if got := opensAt(t, c.layer, c.turns...); got != c.want {
			t.Errorf("P10: %v, %v: opened at %d, want %d", c.layer, c.turns, got, c.want)
		}
	}
}

func TestBreakerCountsInTheOrderOfComingBack(t *testing.T) {
	expectOwn(t, stack(layerOf(api.Breaker, 2, 2, 100, 9, 1)), []api.Client{clientAt(0, value(1, 5)), clientAt(1, fails(2, 1)), clientAt(1, fails(3, 3)), clientAt(5)}, 0,
		"0 c0 Passed, 1 c1 Passed, 1 c2 Passed, 4 c2 Opened, 5 c3 Refused")
	expectOwn(t, stack(layerOf(api.Breaker, 2, 2, 100, 9, 1)), []api.Client{clientAt(0, value(1, 3)), clientAt(1, fails(2, 1)), clientAt(1, fails(3, 3)), clientAt(5)}, 0,
		"0 c0 Passed, 1 c1 Passed, 1 c2 Passed, 5 c3 Passed")
}

func TestBreakerStaysOpenForItsTime(t *testing.T) {
	// It is open since 3, when the failure came back; who is refused does not make that longer.
	expectOwn(t, stack(layerOf(api.Breaker, 1, 1, 100, 7, 1)), []api.Client{clientAt(0, fails(1, 3)), clientAt(3), clientAt(9), clientAt(10)}, 0,
		"0 c0 Passed, 3 c1 Passed, 3 c0 Opened, 9 c2 Refused, 10 c3 Halved, 10 c3 Passed, 10 c3 Closed")
	expectOwn(t, stack(layerOf(api.Breaker, 1, 1, 100, 1, 1)), []api.Client{clientAt(4, fails(1, 0)), clientAt(4), clientAt(5)}, 0,
		"4 c0 Passed, 4 c0 Opened, 4 c1 Refused, 5 c2 Halved, 5 c2 Passed, 5 c2 Closed")
	expectOwn(t, stack(layerOf(api.Breaker, 1, 1, 100, 1000, 1)), []api.Client{clientAt(0, fails(1, 0)), clientAt(999), clientAt(1000)}, 0,
		"0 c0 Passed, 0 c0 Opened, 999 c1 Refused, 1000 c2 Halved, 1000 c2 Passed, 1000 c2 Closed")
	// Nobody comes for long: it is half open only when somebody does.
	expectOwn(t, stack(layerOf(api.Breaker, 1, 1, 100, 2, 1)), []api.Client{clientAt(0, fails(1, 0)), clientAt(500, fails(2, 0)), clientAt(501), clientAt(502)}, 0,
		"0 c0 Passed, 0 c0 Opened, 500 c1 Halved, 500 c1 Passed, 500 c1 Opened, 501 c2 Refused, 502 c3 Halved, 502 c3 Passed, 502 c3 Closed")
}

func TestBreakerThatIsOpenForNoTime(t *testing.T) {
	expectOwn(t, stack(layerOf(api.Breaker, 1, 1, 100, 0, 1)), []api.Client{clientAt(0, fails(1, 0)), clientAt(0, fails(2, 0)), clientAt(0, value(3, 1)), clientAt(0), clientAt(1), clientAt(2)}, 0,
		"0 c0 Passed, 0 c0 Opened, 0 c1 Halved, 0 c1 Passed, 0 c1 Opened, 0 c2 Halved, 0 c2 Passed, 0 c3 Refused, 1 c4 Refused, 1 c2 Closed, 2 c5 Passed")
}

func TestBreakerLetsInItsProbesAndNoMore(t *testing.T) {
	clients := []api.Client{clientAt(0, fails(1, 0)), clientAt(1, value(1, 4)), clientAt(1, value(1, 1)), clientAt(1, value(1, 5)), clientAt(1), clientAt(3), clientAt(6), clientAt(7)}
	// That one came back at 2 doesn't make room: it has counted, and is a probe still.
	expectOwn(t, stack(layerOf(api.Breaker, 1, 1, 100, 1, 3)), clients, 0,
		"0 c0 Passed, 0 c0 Opened, 1 c1 Halved, 1 c1 Passed, 1 c2 Passed, 1 c3 Passed, 1 c4 Refused, 3 c5 Refused, 6 c6 Refused, 6 c3 Closed, 7 c7 Passed")
	expectOwn(t, stack(layerOf(api.Breaker, 1, 1, 100, 1, 4)), clients, 0,
		"0 c0 Passed, 0 c0 Opened, 1 c1 Halved, 1 c1 Passed, 1 c2 Passed, 1 c3 Passed, 1 c4 Passed, 3 c5 Refused, 6 c6 Refused, 6 c3 Closed, 7 c7 Passed")
}

func TestHalfOpenBreakerWaitsForAllItsProbes(t *testing.T) {
	// More probes than the window, and than the least number of calls: neither is asked.
	probes := []api.Client{clientAt(0, fails(1, 0)), clientAt(1, fails(1, 0)), clientAt(2, fails(1, 0)), clientAt(3, value(1, 0)), clientAt(4, value(1, 0)), clientAt(5)}
	for _, c := range []struct {
		percent int
		want    string
	}{
		{50, "4 c4 Opened, 5 c5 Halved, 5 c5 Passed"},
		{51, "4 c4 Closed, 5 c5 Passed"},
	} {
		expectOwn(t, stack(layerOf(api.Breaker, 1, 1, c.percent, 1, 4)), probes, 0,
			"0 c0 Passed, 0 c0 Opened, 1 c1 Halved, 1 c1 Passed, 2 c2 Passed, 3 c3 Passed, 4 c4 Passed, "+c.want)
	}
	// Fewer probes than the least number of calls.
	expectOwn(t, stack(layerOf(api.Breaker, 3, 3, 100, 1, 1)), oneEach(fails(1, 0), fails(1, 0), fails(1, 0), fails(1, 0), value(1, 0)), 0,
		"0 c0 Passed, 1 c1 Passed, 2 c2 Passed, 2 c2 Opened, 3 c3 Halved, 3 c3 Passed, 3 c3 Opened, 4 c4 Halved, 4 c4 Passed, 4 c4 Closed")
}

func TestBreakerCountsAnewInEachPeriod(t *testing.T) {
	// Closed again, it does not count the failures from ahead of its opening, nor the probe.
	expectOwn(t, stack(layerOf(api.Breaker, 3, 2, 60, 1, 1)), oneEach(fails(1, 0), fails(1, 0), value(1, 0), fails(1, 0), fails(1, 0), fails(1, 0), value(1, 0)), 0,
		"0 c0 Passed, 1 c1 Passed, 1 c1 Opened, 2 c2 Halved, 2 c2 Passed, 2 c2 Closed, 3 c3 Passed, 4 c4 Passed, 4 c4 Opened, 5 c5 Halved, 5 c5 Passed, 5 c5 Opened, 6 c6 Halved, 6 c6 Passed, 6 c6 Closed")
}

func TestWhatComesBackInALaterPeriodDoesNotCount(t *testing.T) {
	l := stack(layerOf(api.Breaker, 1, 1, 100, 2, 1))
	// In the open breaker: it is not opened anew.
	expectOwn(t, l, []api.Client{clientAt(0, fails(1, 2)), clientAt(1, fails(2, 0)), clientAt(3, value(1, 0))}, 0,
		"0 c0 Passed, 1 c1 Passed, 1 c1 Opened, 3 c2 Halved, 3 c2 Passed, 3 c2 Closed")
	// In the half open one: neither a failure nor a value is told as its probe's.
	for _, late := range []api.Turn{fails(1, 4), value(1, 4), blows(1, 4)} {
		expectOwn(t, l, []api.Client{clientAt(0, late), clientAt(1, fails(2, 0)), clientAt(3, value(1, 2)), clientAt(4), clientAt(6)}, 0,
			"0 c0 Passed, 1 c1 Passed, 1 c1 Opened, 3 c2 Halved, 3 c2 Passed, 4 c3 Refused, 5 c2 Closed, 6 c4 Passed")
	}
	// In the closed one that comes behind.
	expectOwn(t, l, []api.Client{clientAt(0, fails(1, 4)), clientAt(1, fails(2, 0)), clientAt(3, value(1, 0)), clientAt(5)}, 0,
		"0 c0 Passed, 1 c1 Passed, 1 c1 Opened, 3 c2 Halved, 3 c2 Passed, 3 c2 Closed, 5 c3 Passed")
	// Nor is there a probe less for an error Refused from ahead of that: client 0 is refused by the Rate at its second attempt.
	layers := stack(layerOf(api.Breaker, 1, 1, 100, 1, 1), layerOf(api.Retry, 2, 5, 1, 5), layerOf(api.Rate, 100, 3))
	clients := []api.Client{clientAt(0, fails(1, 0)), clientAt(1, final(1, 0)), clientAt(2, value(1, 10)), clientAt(6), clientAt(13)}
	expectOwn(t, layers, clients, 0,
		"0 c0 Passed, 1 c1 Passed, 1 c1 Opened, 2 c2 Halved, 2 c2 Passed, 6 c3 Refused, 12 c2 Closed, 13 c4 Passed")
}

func TestRefusedDoesNotCount(t *testing.T) {
	// Neither as a failure nor as none: the second failure that counts opens it.
	layers := stack(layerOf(api.Breaker, 2, 2, 100, 9, 1), layerOf(api.Rate, 2, 1))
	expectOwn(t, layers, oneEach(fails(1, 0), value(1, 0), fails(1, 0), value(1, 0)), 0,
		"0 c0 Passed, 1 c1 Passed, 2 c2 Passed, 2 c2 Opened, 3 c3 Refused")
	// A probe that is refused within makes room for another.
	layers = stack(layerOf(api.Breaker, 1, 1, 100, 1, 1), layerOf(api.Rate, 3, 1))
	expectOwn(t, layers, []api.Client{clientAt(0, fails(1, 0)), clientAt(1), clientAt(1), clientAt(2), clientAt(3, value(1, 1)), clientAt(3), clientAt(5)}, 0,
		"0 c0 Passed, 0 c0 Opened, 1 c1 Halved, 1 c1 Passed, 1 c2 Passed, 2 c3 Passed, 3 c4 Passed, 3 c5 Refused, 4 c4 Closed, 5 c6 Passed")
}

func TestLastLinkOfALongerChain(t *testing.T) {
	breaker, again := layerOf(api.Breaker, 1, 1, 100, 9, 1), layerOf(api.Retry, 2, 1, 1, 1)
	clients := []api.Client{clientAt(0, fails(1, 0), fails(2, 0)), clientAt(2)}
	// GaveUp with Refused behind it does not count, GaveUp with Failed does.
	expectRun(t, stack(breaker, again, layerOf(api.Rate, 2, 1)), clients,
		[]string{"{1 2 0 [{7 1 0} {3 2 0}]}", "{2 1 0 []}"},
		"0 c0 l0 Passed 0", "0 c0 l2 Admitted 0", "0 c0 l-1 Began 0", "0 c0 l-1 Ended 0", "0 c0 l1 Paused 1",
		"1 c0 l2 Refused 0", "1 c0 l1 GaveUp 0",
		"2 c1 l0 Passed 0", "2 c1 l2 Admitted 0", "2 c1 l-1 Began 0", "2 c1 l-1 Ended 0")
	expectRun(t, stack(breaker, again, layerOf(api.Rate, 1, 1)), clients,
		[]string{"{1 2 0 [{7 1 0} {1 -1 2}]}", "{2 2 0 [{3 0 0}]}"},
		"0 c0 l0 Passed 0", "0 c0 l2 Admitted 0", "0 c0 l-1 Began 0", "0 c0 l-1 Ended 0", "0 c0 l1 Paused 1",
		"1 c0 l2 Admitted 0", "1 c0 l-1 Began 1", "1 c0 l-1 Ended 1", "1 c0 l1 GaveUp 0", "1 c0 l0 Opened 0",
		"2 c1 l0 Refused 0")
}

func TestPanicThatComesBackCountsAndGoesOn(t *testing.T) {
	expectRun(t, stack(layerOf(api.Breaker, 1, 1, 100, 2, 1)), []api.Client{clientAt(0, blows(7, 1)), clientAt(2), clientAt(3, blows(-8, 0)), clientAt(5, value(9, 0))},
		[]string{"{1 3 7 []}", "{2 2 0 [{3 0 0}]}", "{3 3 -8 []}", "{5 1 9 []}"},
		"0 c0 l0 Passed 0", "0 c0 l-1 Began 0", "1 c0 l-1 Ended 0", "1 c0 l0 Opened 0",
		"2 c1 l0 Refused 0",
		"3 c2 l0 Halved 0", "3 c2 l0 Passed 0", "3 c2 l-1 Began 0", "3 c2 l-1 Ended 0", "3 c2 l0 Opened 0",
		"5 c3 l0 Halved 0", "5 c3 l0 Passed 0", "5 c3 l-1 Began 0", "5 c3 l-1 Ended 0", "5 c3 l0 Closed 0")
}

func TestBreakerBetweenGuards(t *testing.T) {
	turn := blows(7, 0)
	expectRun(t, stack(layerOf(api.Guard), layerOf(api.Breaker, 1, 1, 100, 2, 1)), []api.Client{clientAt(0, turn)},
		[]string{"{0 2 0 [{6 0 7}]}"},
		"0 c0 l1 Passed 0", "0 c0 l-1 Began 0", "0 c0 l-1 Ended 0", "0 c0 l1 Opened 0", "0 c0 l0 Caught 7")
	expectRun(t, stack(layerOf(api.Breaker, 1, 1, 100, 2, 1), layerOf(api.Guard)), []api.Client{clientAt(0, turn)},
		[]string{"{0 2 0 [{6 1 7}]}"},
		"0 c0 l0 Passed 0", "0 c0 l-1 Began 0", "0 c0 l-1 Ended 0", "0 c0 l1 Caught 7", "0 c0 l0 Opened 0")
}

func TestRetryAroundBreaker(t *testing.T) {
	expectRun(t, stack(layerOf(api.Retry, 3, 1, 1, 9), layerOf(api.Breaker, 1, 1, 100, 2, 1)), []api.Client{clientAt(0, fails(1, 0), value(2, 0))},
		[]string{"{2 1 2 []}"},
		"0 c0 l1 Passed 0", "0 c0 l-1 Began 0", "0 c0 l-1 Ended 0", "0 c0 l1 Opened 0", "0 c0 l0 Paused 1",
		"1 c0 l1 Refused 0", "1 c0 l0 Paused 1",
		"2 c0 l1 Halved 0", "2 c0 l1 Passed 0", "2 c0 l-1 Began 1", "2 c0 l-1 Ended 1", "2 c0 l1 Closed 0")
}

func TestBreakerWithinBreaker(t *testing.T) {
	// Both open at the same failure, the inner one first; later the inner one refuses what the outer one let in, which does not count there.
	layers := stack(layerOf(api.Breaker, 1, 1, 100, 2, 1), layerOf(api.Breaker, 1, 1, 100, 4, 1))
	expectRun(t, layers, []api.Client{clientAt(0, fails(1, 0)), clientAt(1), clientAt(2), clientAt(3), clientAt(4, value(5, 0))},
		[]string{"{0 2 0 [{1 -1 1}]}", "{1 2 0 [{3 0 0}]}", "{2 2 0 [{3 1 0}]}", "{3 2 0 [{3 1 0}]}", "{4 1 5 []}"},
		"0 c0 l0 Passed 0", "0 c0 l1 Passed 0", "0 c0 l-1 Began 0", "0 c0 l-1 Ended 0", "0 c0 l1 Opened 0", "0 c0 l0 Opened 0",
		"1 c1 l0 Refused 0",
		"2 c2 l0 Halved 0", "2 c2 l0 Passed 0", "2 c2 l1 Refused 0",
		"3 c3 l0 Passed 0", "3 c3 l1 Refused 0",
		"4 c4 l0 Passed 0", "4 c4 l1 Halved 0", "4 c4 l1 Passed 0", "4 c4 l-1 Began 0", "4 c4 l-1 Ended 0", "4 c4 l1 Closed 0", "4 c4 l0 Closed 0")
}

func TestNothingPassesABreakerWhileItIsOpen(t *testing.T) {
	refused := 0
	lookAtLayers(4, api.Breaker, func(l api.Layer, own []api.Event) {
		until := -1
		for _, e := range own {
			if (e.What == api.EvPassed || e.What == api.EvHalved) && e.At < until {
				t.Errorf("P13: %v: open until %d, but %s in\n%s", l, until, eventText(e), eventTexts(own))
			}
			if e.What == api.EvOpened {
				until = e.At + l.D
			}
			if e.What == api.EvRefused && e.At < until {
				refused++
			}
		}
	})
	if refused < 500 {
		t.Errorf("only %d were refused by an open breaker", refused)
	}
}
