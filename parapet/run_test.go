package parapet

import (
	"fmt"
	"testing"

	"parapet/api"
)

func TestRunOfNobody(t *testing.T) {
	expectRun(t, nil, nil, nil)
	expectRun(t, stack(layerOf(api.Guard)), nil, nil)
}

func TestOutcomesStandInTheOrderOfTheClients(t *testing.T) {
	expectRun(t, nil, []api.Client{clientAt(5, value(7, 3)), clientAt(1, fails(4, 1)), clientAt(3, final(-6, 0)), clientAt(4, blows(-8, 0)), clientAt(9)},
		[]string{"{8 1 7 []}", "{2 2 0 [{1 -1 4}]}", "{3 2 0 [{2 -1 -6}]}", "{4 3 -8 []}", "{9 1 0 []}"},
		"1 c1 l-1 Began 0", "2 c1 l-1 Ended 0",
		"3 c2 l-1 Began 0", "3 c2 l-1 Ended 0",
		"4 c3 l-1 Began 0", "4 c3 l-1 Ended 0",
		"5 c0 l-1 Began 0", "8 c0 l-1 Ended 0",
		"9 c4 l-1 Began 0", "9 c4 l-1 Ended 0")
}

func TestExtremeNumbersComeBackAsTheyAre(t *testing.T) {
	for _, n := range []int{leastInt, -1, 0, 1, mostInt} {
		expectRun(t, nil, []api.Client{clientAt(0, value(n, 0))}, []string{fmt.Sprintf("{0 1 %d []}", n)}, "0 c0 l-1 Began 0", "0 c0 l-1 Ended 0")
		expectRun(t, nil, []api.Client{clientAt(0, fails(n, 0))}, []string{fmt.Sprintf("{0 2 0 [{1 -1 %d}]}", n)}, "0 c0 l-1 Began 0", "0 c0 l-1 Ended 0")
		expectRun(t, nil, []api.Client{clientAt(0, blows(n, 0))}, []string{fmt.Sprintf("{0 3 %d []}", n)}, "0 c0 l-1 Began 0", "0 c0 l-1 Ended 0")
		expectRun(t, stack(layerOf(api.Guard)), []api.Client{clientAt(0, blows(n, 0))}, []string{fmt.Sprintf("{0 2 0 [{6 0 %d}]}", n)}, "0 c0 l-1 Began 0", "0 c0 l-1 Ended 0", fmt.Sprint("0 c0 l0 Caught ", n))
	}
}

func TestTurnWithoutTimeDoesNotWait(t *testing.T) {
	expectRun(t, nil, []api.Client{clientAt(1, value(1, 0)), clientAt(1, value(2, 0))},
		[]string{"{1 1 1 []}", "{1 1 2 []}"},
		"1 c0 l-1 Began 0", "1 c0 l-1 Ended 0", "1 c1 l-1 Began 0", "1 c1 l-1 Ended 0")
}

func TestEntriesOfOneTimeInTheOrderInWhichTheyWerePut(t *testing.T) {
	// The start of client 2 was put on the agenda first of all, then the end of client 1's turn, then that of client 0's.
	expectRun(t, nil, []api.Client{clientAt(3, value(1, 2)), clientAt(1, value(2, 4)), clientAt(5, value(3, 0))},
		[]string{"{5 1 1 []}", "{5 1 2 []}", "{5 1 3 []}"},
		"1 c1 l-1 Began 0", "3 c0 l-1 Began 0", "5 c2 l-1 Began 0", "5 c2 l-1 Ended 0", "5 c1 l-1 Ended 0", "5 c0 l-1 Ended 0")
}

func TestPausesAreOnTheAgendaLikeTurns(t *testing.T) {
	expectRun(t, stack(layerOf(api.Retry, 2, 4, 1, 4)), []api.Client{clientAt(0, fails(1, 1)), clientAt(0, value(2, 5)), clientAt(5, value(3, 0))},
		[]string{"{5 1 0 []}", "{5 1 2 []}", "{5 1 3 []}"},
		"0 c0 l-1 Began 0", "0 c1 l-1 Began 0", "1 c0 l-1 Ended 0", "1 c0 l0 Paused 4",
		"5 c2 l-1 Began 0", "5 c2 l-1 Ended 0", "5 c1 l-1 Ended 0", "5 c0 l-1 Began 1", "5 c0 l-1 Ended 1")
}

func TestPauseOfNothingDoesNotWait(t *testing.T) {
	for _, l := range []api.Layer{layerOf(api.Retry, 2, 0, 9, 9), layerOf(api.Retry, 2, 9, 1, 0)} {
		expectRun(t, stack(l), []api.Client{clientAt(0, fails(1, 0)), clientAt(0)},
			[]string{"{0 1 0 []}", "{0 1 0 []}"},
			"0 c0 l-1 Began 0", "0 c0 l-1 Ended 0", "0 c0 l0 Paused 0", "0 c0 l-1 Began 1", "0 c0 l-1 Ended 1",
			"0 c1 l-1 Began 0", "0 c1 l-1 Ended 0")
	}
}

// pausesOf: of a client all whose turns are failures without time, and the time of its outcome.
func pausesOf(l api.Layer) ([]int, int) {
	var turns []api.Turn
	for range 12 {
		turns = append(turns, fails(1, 0))
	}
	r, _, _ := Run(stack(l), []api.Client{clientAt(0, turns...)})
	var pauses []int
	for _, e := range r.Events {
		if e.What == api.EvPaused {
			pauses = append(pauses, e.N)
		}
	}
	return pauses, r.Outcomes[0].At
}

func TestPauses(t *testing.T) {
	for _, c := range []struct {
		layer  api.Layer
		pauses string
		ends   int
	}{
		{layerOf(api.Retry, 1, 5, 2, 9), "[]", 0},
		{layerOf(api.Retry, 5, 3, 2, 10000), "[3 6 12 24]", 45},
		{layerOf(api.Retry, 5, 3, 2, 12), "[3 6 12 12]", 33},
		{layerOf(api.Retry, 5, 3, 2, 11), "[3 6 11 11]", 31},
		{layerOf(api.Retry, 4, 7, 1, 100), "[7 7 7]", 21},
		{layerOf(api.Retry, 4, 7, 3, 6), "[6 6 6]", 18},
		{layerOf(api.Retry, 4, 7, 3, 0), "[0 0 0]", 0},
		{layerOf(api.Retry, 3, 0, 9, 10000), "[0 0]", 0},
		{layerOf(api.Retry, 9, 1000, 9, 10000), "[1000 9000 10000 10000 10000 10000 10000 10000]", 70000},
		{layerOf(api.Retry, 9, 1, 9, 10000), "[1 9 81 729 6561 10000 10000 10000]", 37381},
	} {
		pauses, ends := pausesOf(c.layer)
		if got := fmt.Sprint(pauses); got != c.pauses || ends != c.ends {
			t.Errorf("P7: %v: pauses %s until %d, want %s until %d", c.layer, got, ends, c.pauses, c.ends)
		}
	}
}

func TestRetryTriesAgainUntilAValue(t *testing.T) {
	expectRun(t, stack(layerOf(api.Retry, 3, 10, 2, 15)), []api.Client{clientAt(0, fails(1, 2), fails(2, 0), value(9, 1))},
		[]string{"{28 1 9 []}"},
		"0 c0 l-1 Began 0", "2 c0 l-1 Ended 0", "2 c0 l0 Paused 10", "12 c0 l-1 Began 1", "12 c0 l-1 Ended 1", "12 c0 l0 Paused 15", "27 c0 l-1 Began 2", "28 c0 l-1 Ended 2")
}

func TestRetryGivesUp(t *testing.T) {
	expectRun(t, stack(layerOf(api.Retry, 2, 1, 1, 1)), []api.Client{clientAt(0, fails(1, 0), fails(2, 3), value(9, 1))},
		[]string{"{4 2 0 [{7 0 0} {1 -1 2}]}"},
		"0 c0 l-1 Began 0", "0 c0 l-1 Ended 0", "0 c0 l0 Paused 1", "1 c0 l-1 Began 1", "4 c0 l-1 Ended 1", "4 c0 l0 GaveUp 0")
}

func TestRetryDoesNotTryAgainAtFatalOrAPanic(t *testing.T) {
	l := stack(layerOf(api.Retry, 3, 1, 1, 1))
	expectRun(t, l, []api.Client{clientAt(0, final(4, 2))}, []string{"{2 2 0 [{2 -1 4}]}"}, "0 c0 l-1 Began 0", "2 c0 l-1 Ended 0")
	expectRun(t, l, []api.Client{clientAt(0, blows(4, 2))}, []string{"{2 3 4 []}"}, "0 c0 l-1 Began 0", "2 c0 l-1 Ended 0")
	last := stack(layerOf(api.Retry, 1, 1, 1, 1))
	expectRun(t, last, []api.Client{clientAt(0, final(4, 2))}, []string{"{2 2 0 [{2 -1 4}]}"}, "0 c0 l-1 Began 0", "2 c0 l-1 Ended 0")
}

func TestRetryWithinRetry(t *testing.T) {
	expectRun(t, stack(layerOf(api.Retry, 2, 5, 1, 5), layerOf(api.Retry, 2, 1, 1, 1)), []api.Client{clientAt(0, fails(1, 0), fails(2, 0), fails(3, 0), fails(4, 0))},
		[]string{"{7 2 0 [{7 0 0} {7 1 0} {1 -1 4}]}"},
		"0 c0 l-1 Began 0", "0 c0 l-1 Ended 0", "0 c0 l1 Paused 1", "1 c0 l-1 Began 1", "1 c0 l-1 Ended 1", "1 c0 l1 GaveUp 0",
		"1 c0 l0 Paused 5", "6 c0 l-1 Began 2", "6 c0 l-1 Ended 2", "6 c0 l1 Paused 1", "7 c0 l-1 Began 3", "7 c0 l-1 Ended 3", "7 c0 l1 GaveUp 0", "7 c0 l0 GaveUp 0")
}

func TestTurnsBehindTheLastOne(t *testing.T) {
	expectRun(t, stack(layerOf(api.Retry, 3, 0, 1, 0)), []api.Client{clientAt(0, fails(1, 2)), clientAt(1)},
		[]string{"{2 1 0 []}", "{1 1 0 []}"},
		"0 c0 l-1 Began 0", "1 c1 l-1 Began 0", "1 c1 l-1 Ended 0", "2 c0 l-1 Ended 0", "2 c0 l0 Paused 0", "2 c0 l-1 Began 1", "2 c0 l-1 Ended 1")
}

// TestTurnsInTheMemoryBehindAListAreNone: the room behind the turns is not the client's.
func TestTurnsInTheMemoryBehindAListAreNone(t *testing.T) {
	turns := []api.Turn{fails(1, 0), value(7, 0)}
	expectRun(t, stack(layerOf(api.Retry, 2, 0, 1, 0)), []api.Client{{Turns: turns[:1]}},
		[]string{"{0 1 0 []}"},
		"0 c0 l-1 Began 0", "0 c0 l-1 Ended 0", "0 c0 l0 Paused 0", "0 c0 l-1 Began 1", "0 c0 l-1 Ended 1")
}

func TestGuardLetsValuesAndErrorsGoOn(t *testing.T) {
	expectRun(t, stack(layerOf(api.Guard)), []api.Client{clientAt(0, value(4, 1)), clientAt(5, fails(4, 1)), clientAt(9, final(4, 1))},
		[]string{"{1 1 4 []}", "{6 2 0 [{1 -1 4}]}", "{10 2 0 [{2 -1 4}]}"},
		"0 c0 l-1 Began 0", "1 c0 l-1 Ended 0", "5 c1 l-1 Began 0", "6 c1 l-1 Ended 0", "9 c2 l-1 Began 0", "10 c2 l-1 Ended 0")
}

func TestInnermostGuardCatches(t *testing.T) {
	expectRun(t, stack(layerOf(api.Guard), layerOf(api.Guard)), []api.Client{clientAt(0, blows(4, 1))},
		[]string{"{1 2 0 [{6 1 4}]}"},
		"0 c0 l-1 Began 0", "1 c0 l-1 Ended 0", "1 c0 l1 Caught 4")
}

func TestRetryAroundGuardTriesAPanicAgain(t *testing.T) {
	expectRun(t, stack(layerOf(api.Retry, 2, 3, 1, 3), layerOf(api.Guard)), []api.Client{clientAt(0, blows(4, 1), blows(5, 0))},
		[]string{"{4 2 0 [{7 0 0} {6 1 5}]}"},
		"0 c0 l-1 Began 0", "1 c0 l-1 Ended 0", "1 c0 l1 Caught 4", "1 c0 l0 Paused 3", "4 c0 l-1 Began 1", "4 c0 l-1 Ended 1", "4 c0 l1 Caught 5", "4 c0 l0 GaveUp 0")
}

func TestGuardAroundRetryDoesNot(t *testing.T) {
	expectRun(t, stack(layerOf(api.Guard), layerOf(api.Retry, 2, 3, 1, 3)), []api.Client{clientAt(0, fails(1, 0), blows(4, 1), value(6, 0))},
		[]string{"{4 2 0 [{6 0 4}]}"},
		"0 c0 l-1 Began 0", "0 c0 l-1 Ended 0", "0 c0 l1 Paused 3", "3 c0 l-1 Began 1", "4 c0 l-1 Ended 1", "4 c0 l0 Caught 4")
}

func TestGuardCatchesOfEachClientItsOwn(t *testing.T) {
	expectRun(t, stack(layerOf(api.Guard)), []api.Client{clientAt(0, blows(1, 3)), clientAt(1, blows(2, 2)), clientAt(2, value(3, 1))},
		[]string{"{3 2 0 [{6 0 1}]}", "{3 2 0 [{6 0 2}]}", "{3 1 3 []}"},
		"0 c0 l-1 Began 0", "1 c1 l-1 Began 0", "2 c2 l-1 Began 0",
		"3 c0 l-1 Ended 0", "3 c0 l0 Caught 1", "3 c1 l-1 Ended 0", "3 c1 l0 Caught 2", "3 c2 l-1 Ended 0")
}
