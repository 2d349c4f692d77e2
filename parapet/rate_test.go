package parapet

import (
	"testing"

	"parapet/api"
)

func startsAt(starts ...int) []api.Client {
	var clients []api.Client
	for _, start := range starts {
		clients = append(clients, clientAt(start))
	}
	return clients
}

func TestRateAdmitsAndRefuses(t *testing.T) {
	expectRun(t, stack(layerOf(api.Guard), layerOf(api.Rate, 10, 2)), []api.Client{clientAt(0, value(7, 3)), clientAt(0, fails(8, 0)), clientAt(0), clientAt(0), clientAt(10, blows(9, 1))},
		[]string{"{3 1 7 []}", "{0 2 0 [{1 -1 8}]}", "{0 2 0 [{3 1 0}]}", "{0 2 0 [{3 1 0}]}", "{11 2 0 [{6 0 9}]}"},
		"0 c0 l1 Admitted 0", "0 c0 l-1 Began 0",
		"0 c1 l1 Admitted 0", "0 c1 l-1 Began 0", "0 c1 l-1 Ended 0",
		"0 c2 l1 Refused 0", "0 c3 l1 Refused 0",
		"3 c0 l-1 Ended 0",
		"10 c4 l1 Admitted 0", "10 c4 l-1 Began 0", "11 c4 l-1 Ended 0", "11 c4 l0 Caught 9")
}

func TestRateAtItsEdges(t *testing.T) {
	for _, c := range []struct {
		layer  api.Layer
		starts []int
		want   string
	}{
		// The next time is 30 behind the third: at 9 it is 21 above the present, at 10 just two intervals.
		{layerOf(api.Rate, 10, 3), []int{0, 0, 0, 9, 10, 10}, "0 c0 Admitted, 0 c1 Admitted, 0 c2 Admitted, 9 c3 Refused, 10 c4 Admitted, 10 c5 Refused"},
		// With a burst of 1 the present time itself is the edge.
		{layerOf(api.Rate, 3, 1), []int{5, 7, 8, 10, 11}, "5 c0 Admitted, 7 c1 Refused, 8 c2 Admitted, 10 c3 Refused, 11 c4 Admitted"},
		{layerOf(api.Rate, 1, 1), []int{0, 0, 1, 1, 2}, "0 c0 Admitted, 0 c1 Refused, 1 c2 Admitted, 1 c3 Refused, 2 c4 Admitted"},
		{layerOf(api.Rate, 1, 20), []int{0, 0, 0, 0, 0, 0, 0, 0, 0}, "0 c0 Admitted, 0 c1 Admitted, 0 c2 Admitted, 0 c3 Admitted, 0 c4 Admitted, 0 c5 Admitted, 0 c6 Admitted, 0 c7 Admitted, 0 c8 Admitted"},
		{layerOf(api.Rate, 1000, 1), []int{0, 999, 1000}, "0 c0 Admitted, 999 c1 Refused, 1000 c2 Admitted"},
		{layerOf(api.Rate, 1000, 2), []int{999, 999, 999, 1000}, "999 c0 Admitted, 999 c1 Admitted, 999 c2 Refused, 1000 c3 Refused"},
		// A next time that lies behind the present: what was not used is not saved up.
		{layerOf(api.Rate, 10, 2), []int{0, 50, 50, 50, 59, 60}, "0 c0 Admitted, 50 c1 Admitted, 50 c2 Admitted, 50 c3 Refused, 59 c4 Refused, 60 c5 Admitted"},
		// The next time is above the present, but by less than an interval: it goes on from itself, not from the present.
		{layerOf(api.Rate, 10, 2), []int{0, 4, 9, 10, 19, 20}, "0 c0 Admitted, 4 c1 Admitted, 9 c2 Refused, 10 c3 Admitted, 19 c4 Refused, 20 c5 Admitted"},
		// Who is refused does not move the next time.
		{layerOf(api.Rate, 5, 1), []int{0, 1, 2, 3, 4, 5}, "0 c0 Admitted, 1 c1 Refused, 2 c2 Refused, 3 c3 Refused, 4 c4 Refused, 5 c5 Admitted"},
		// At first it is below every time, however late the first one comes.
		{layerOf(api.Rate, 2, 1), []int{1000, 1000}, "1000 c0 Admitted, 1000 c1 Refused"},
	} {
		expectOwn(t, stack(c.layer), startsAt(c.starts...), 0, c.want)
	}
}

func TestRateCountsEveryAttempt(t *testing.T) {
	expectRun(t, stack(layerOf(api.Retry, 4, 4, 1, 4), layerOf(api.Rate, 10, 1)), []api.Client{clientAt(0, fails(1, 0), value(2, 0))},
		[]string{"{12 1 2 []}"},
		"0 c0 l1 Admitted 0", "0 c0 l-1 Began 0", "0 c0 l-1 Ended 0", "0 c0 l0 Paused 4",
		"4 c0 l1 Refused 0", "4 c0 l0 Paused 4", "8 c0 l1 Refused 0", "8 c0 l0 Paused 4",
		"12 c0 l1 Admitted 0", "12 c0 l-1 Began 1", "12 c0 l-1 Ended 1")
	expectRun(t, stack(layerOf(api.Retry, 2, 4, 1, 4), layerOf(api.Rate, 10, 1)), []api.Client{clientAt(0, fails(1, 0))},
		[]string{"{4 2 0 [{7 0 0} {3 1 0}]}"},
		"0 c0 l1 Admitted 0", "0 c0 l-1 Began 0", "0 c0 l-1 Ended 0", "0 c0 l0 Paused 4", "4 c0 l1 Refused 0", "4 c0 l0 GaveUp 0")
}

func TestRateAroundRetryCountsTheCallOnce(t *testing.T) {
	expectRun(t, stack(layerOf(api.Rate, 10, 1), layerOf(api.Retry, 3, 1, 1, 1)), []api.Client{clientAt(0, fails(1, 0), fails(2, 0), value(3, 0))},
		[]string{"{2 1 3 []}"},
		"0 c0 l0 Admitted 0", "0 c0 l-1 Began 0", "0 c0 l-1 Ended 0", "0 c0 l1 Paused 1",
		"1 c0 l-1 Began 1", "1 c0 l-1 Ended 1", "1 c0 l1 Paused 1", "2 c0 l-1 Began 2", "2 c0 l-1 Ended 2")
}

func TestEachRateHasItsOwnNextTime(t *testing.T) {
	layers := stack(layerOf(api.Rate, 10, 2), layerOf(api.Rate, 4, 1))
	clients := startsAt(0, 0, 0, 4, 10)
	expectOwn(t, layers, clients, 0, "0 c0 Admitted, 0 c1 Admitted, 0 c2 Refused, 4 c3 Refused, 10 c4 Admitted")
	expectOwn(t, layers, clients, 1, "0 c0 Admitted, 0 c1 Refused, 10 c4 Admitted")
}

func TestRateAdmitsOnlySoManyInASpan(t *testing.T) {
	full := 0
	lookAtLayers(3, api.Rate, func(l api.Layer, own []api.Event) {
		times := timesOf(own, api.EvAdmitted)
		for first := range times {
			for last := first; last < len(times); last++ {
				count, most := last-first+1, (times[last]-times[first])/l.A+l.B
				if count > most {
					t.Errorf("P13: %v: %d admitted at %v", l, count, times[first:last+1])
				}
				if count == most {
					full++
				}
			}
		}
	})
	if full < 500 {
		t.Errorf("only %d spans were full", full)
	}
}
