package parapet

import (
	"fmt"
	"math/rand"
	"testing"

	"parapet/api"
)

func limitOf(longest int) api.Layer { return layerOf(api.Limit, longest) }

func TestLimitAtItsEdges(t *testing.T) {
	const late = "{3 2 0 [{4 0 0}]}"
	for _, c := range []struct {
		turn     func(n, takes int) api.Turn
		outcomes [5]string // of a turn that takes 0, 1, ..
	}{
		{value, [5]string{"{0 1 7 []}", "{1 1 7 []}", "{2 1 7 []}", late, late}},
		{fails, [5]string{"{0 2 0 [{1 -1 7}]}", "{1 2 0 [{1 -1 7}]}", "{2 2 0 [{1 -1 7}]}", late, late}},
		{final, [5]string{"{0 2 0 [{2 -1 7}]}", "{1 2 0 [{2 -1 7}]}", "{2 2 0 [{2 -1 7}]}", late, late}},
		{blows, [5]string{"{0 3 7 []}", "{1 3 7 []}", "{2 3 7 []}", late, late}},
	} {
		for takes, outcome := range c.outcomes {
			events := []string{"0 c0 l-1 Began 0", fmt.Sprintf("%d c0 l-1 Ended 0", takes)}
			if outcome == late {
				events = []string{events[0], "3 c0 l0 Cut 0", events[1]}
			}
			expectRun(t, stack(limitOf(3)), []api.Client{clientAt(0, c.turn(7, takes))}, []string{outcome}, events...)
		}
	}
}

func TestShortAndLongLimits(t *testing.T) {
	expectRun(t, stack(limitOf(1)), []api.Client{clientAt(4, value(7, 0)), clientAt(6, value(8, 1))},
		[]string{"{4 1 7 []}", "{7 2 0 [{4 0 0}]}"},
		"4 c0 l-1 Began 0", "4 c0 l-1 Ended 0", "6 c1 l-1 Began 0", "7 c1 l0 Cut 0", "7 c1 l-1 Ended 0")
	expectRun(t, stack(limitOf(1000)), []api.Client{clientAt(0, value(7, 999)), clientAt(1000, value(8, 1000))},
		[]string{"{999 1 7 []}", "{2000 2 0 [{4 0 0}]}"},
		"0 c0 l-1 Began 0", "999 c0 l-1 Ended 0", "1000 c1 l-1 Began 0", "2000 c1 l0 Cut 0", "2000 c1 l-1 Ended 0")
}

func TestNewTaskAndWhatComesBackGetInLine(t *testing.T) {
	// Both clients come to the Limit before the first new task begins, and both turns end before the first one goes on outwards.
	expectRun(t, stack(layerOf(api.Room, 2, 0), limitOf(3)), []api.Client{clientAt(0, value(7, 0)), clientAt(0, fails(8, 0))},
		[]string{"{0 1 7 []}", "{0 2 0 [{1 -1 8}]}"},
		"0 c0 l0 Took 0", "0 c1 l0 Took 0",
		"0 c0 l-1 Began 0", "0 c0 l-1 Ended 0", "0 c1 l-1 Began 0", "0 c1 l-1 Ended 0",
		"0 c0 l0 Left 0", "0 c1 l0 Left 0")
	expectRun(t, stack(limitOf(3), layerOf(api.Room, 1, 0)), []api.Client{clientAt(0, value(7, 0)), clientAt(0, fails(8, 0))},
		[]string{"{0 1 7 []}", "{0 2 0 [{1 -1 8}]}"},
		"0 c0 l1 Took 0", "0 c0 l-1 Began 0", "0 c0 l-1 Ended 0", "0 c0 l1 Left 0",
		"0 c1 l1 Took 0", "0 c1 l-1 Began 0", "0 c1 l-1 Ended 0", "0 c1 l1 Left 0")
}

func TestLimitAndGuard(t *testing.T) {
	// A panic in time goes from the new task to the one that waits.
	expectRun(t, stack(layerOf(api.Guard), limitOf(3)), []api.Client{clientAt(0, blows(4, 1))},
		[]string{"{1 2 0 [{6 0 4}]}"},
		"0 c0 l-1 Began 0", "1 c0 l-1 Ended 0", "1 c0 l0 Caught 4")
	expectRun(t, stack(limitOf(3), layerOf(api.Guard)), []api.Client{clientAt(0, blows(4, 1))},
		[]string{"{1 2 0 [{6 1 4}]}"},
		"0 c0 l-1 Began 0", "1 c0 l-1 Ended 0", "1 c0 l1 Caught 4")
	// One that is too late comes to nothing, but a Guard within the Limit still has it.
	expectRun(t, stack(layerOf(api.Guard), limitOf(3)), []api.Client{clientAt(0, blows(4, 5))},
		[]string{"{3 2 0 [{4 1 0}]}"},
		"0 c0 l-1 Began 0", "3 c0 l1 Cut 0", "5 c0 l-1 Ended 0")
	expectRun(t, stack(limitOf(3), layerOf(api.Guard)), []api.Client{clientAt(0, blows(4, 5))},
		[]string{"{3 2 0 [{4 0 0}]}"},
		"0 c0 l-1 Began 0", "3 c0 l0 Cut 0", "5 c0 l-1 Ended 0", "5 c0 l1 Caught 4")
	// Through two new tasks.
	expectRun(t, stack(layerOf(api.Guard), limitOf(3), limitOf(3)), []api.Client{clientAt(0, blows(4, 1))},
		[]string{"{1 2 0 [{6 0 4}]}"},
		"0 c0 l-1 Began 0", "1 c0 l-1 Ended 0", "1 c0 l0 Caught 4")
}

func TestRetryAroundLimitTriesAgain(t *testing.T) {
	// The second attempt's Began comes ahead of the first one's Ended, and has the next turn.
	layers := stack(layerOf(api.Retry, 2, 1, 1, 1), limitOf(3))
	expectRun(t, layers, []api.Client{clientAt(0, value(1, 5), value(2, 1))},
		[]string{"{5 1 2 []}"},
		"0 c0 l-1 Began 0", "3 c0 l1 Cut 0", "3 c0 l0 Paused 1", "4 c0 l-1 Began 1", "5 c0 l-1 Ended 0", "5 c0 l-1 Ended 1")
	expectRun(t, layers, []api.Client{clientAt(0, value(1, 5), value(2, 5))},
		[]string{"{7 2 0 [{7 0 0} {4 1 0}]}"},
		"0 c0 l-1 Began 0", "3 c0 l1 Cut 0", "3 c0 l0 Paused 1", "4 c0 l-1 Began 1", "5 c0 l-1 Ended 0", "7 c0 l1 Cut 0", "7 c0 l0 GaveUp 0", "9 c0 l-1 Ended 1")
	// What the first one brings while the second one still waits does not come to that.
	expectRun(t, stack(layerOf(api.Retry, 2, 0, 1, 0), limitOf(3)), []api.Client{clientAt(0, value(1, 4), fails(2, 2))},
		[]string{"{5 2 0 [{7 0 0} {1 -1 2}]}"},
		"0 c0 l-1 Began 0", "3 c0 l1 Cut 0", "3 c0 l0 Paused 0", "3 c0 l-1 Began 1", "4 c0 l-1 Ended 0", "5 c0 l-1 Ended 1", "5 c0 l0 GaveUp 0")
	// Turns behind the last one are shared too.
	expectRun(t, stack(layerOf(api.Retry, 3, 0, 1, 0), limitOf(3)), []api.Client{clientAt(0, fails(1, 9)), clientAt(3, value(2, 1))},
		[]string{"{3 1 0 []}", "{4 1 2 []}"},
		"0 c0 l-1 Began 0", "3 c0 l1 Cut 0", "3 c0 l0 Paused 0", "3 c1 l-1 Began 0", "3 c0 l-1 Began 1", "3 c0 l-1 Ended 1", "4 c1 l-1 Ended 0", "9 c0 l-1 Ended 0")
}

func TestPauseOfARetryIsCancelled(t *testing.T) {
	turn := fails(1, 0)
	client := []api.Client{clientAt(0, turn, turn, turn, turn)}
	until2 := []string{"0 c0 l-1 Began 0", "0 c0 l-1 Ended 0", "0 c0 l1 Paused 2", "2 c0 l-1 Began 1", "2 c0 l-1 Ended 1", "2 c0 l1 Paused 2"}
	expectRun(t, stack(limitOf(3), layerOf(api.Retry, 9, 2, 1, 2)), client, []string{"{3 2 0 [{4 0 0}]}"},
		append(until2, "3 c0 l0 Cut 0", "3 c0 l1 Dropped 0")...)
	// The Limit's time was on the agenda first.
	expectRun(t, stack(limitOf(4), layerOf(api.Retry, 9, 2, 1, 2)), client, []string{"{4 2 0 [{4 0 0}]}"},
		append(until2, "4 c0 l0 Cut 0", "4 c0 l1 Dropped 0")...)
	expectRun(t, stack(limitOf(5), layerOf(api.Retry, 9, 2, 1, 2)), client, []string{"{5 2 0 [{4 0 0}]}"},
		append(until2, "4 c0 l-1 Began 2", "4 c0 l-1 Ended 2", "4 c0 l1 Paused 2", "5 c0 l0 Cut 0", "5 c0 l1 Dropped 0")...)
	// The outer one of two goes no further either.
	expectRun(t, stack(limitOf(3), layerOf(api.Retry, 9, 0, 1, 0), layerOf(api.Retry, 9, 9, 1, 9)), client, []string{"{3 2 0 [{4 0 0}]}"},
		"0 c0 l-1 Began 0", "0 c0 l-1 Ended 0", "0 c0 l2 Paused 9", "3 c0 l0 Cut 0", "3 c0 l2 Dropped 0")
}

func TestCancelledTaskComesBackToARetry(t *testing.T) {
	for _, c := range []struct {
		retry  api.Layer
		turn   api.Turn
		behind []string
	}{
		{layerOf(api.Retry, 3, 5, 1, 5), fails(1, 4), []string{"4 c0 l1 Paused 5", "4 c0 l1 Dropped 0"}},
		{layerOf(api.Retry, 3, 0, 1, 0), fails(1, 4), []string{"4 c0 l1 Paused 0", "4 c0 l1 Dropped 0"}},
		{layerOf(api.Retry, 1, 5, 1, 5), fails(1, 4), []string{"4 c0 l1 GaveUp 0"}},
		{layerOf(api.Retry, 3, 5, 1, 5), final(1, 4), nil},
		{layerOf(api.Retry, 3, 5, 1, 5), value(1, 4), nil},
		{layerOf(api.Retry, 3, 5, 1, 5), blows(1, 4), nil},
	} {
		expectRun(t, stack(limitOf(2), c.retry), []api.Client{clientAt(0, c.turn)}, []string{"{2 2 0 [{4 0 0}]}"},
			append([]string{"0 c0 l-1 Began 0", "2 c0 l0 Cut 0", "4 c0 l-1 Ended 0"}, c.behind...)...)
	}
}

func TestLimitWithinLimit(t *testing.T) {
	for _, c := range []struct {
		outer, inner, takes int
		outcome             string
		events              []string
	}{
		{9, 9, 5, "{5 1 1 []}", []string{"5 c0 l-1 Ended 0"}},
		// The outer one is cut first: the wait of the inner one is cancelled, that of the backend is not.
		{2, 9, 5, "{2 2 0 [{4 0 0}]}", []string{"2 c0 l0 Cut 0", "2 c0 l1 Dropped 0", "5 c0 l-1 Ended 0"}},
		{4, 5, 5, "{4 2 0 [{4 0 0}]}", []string{"4 c0 l0 Cut 0", "4 c0 l1 Dropped 0", "5 c0 l-1 Ended 0"}},
		// The inner one first: its error comes back to the outer one in time.
		{9, 2, 5, "{2 2 0 [{4 1 0}]}", []string{"2 c0 l1 Cut 0", "5 c0 l-1 Ended 0"}},
		{5, 4, 5, "{4 2 0 [{4 1 0}]}", []string{"4 c0 l1 Cut 0", "5 c0 l-1 Ended 0"}},
		// Both at the same time: the time of the outer one was on the agenda first.
		{3, 3, 5, "{3 2 0 [{4 0 0}]}", []string{"3 c0 l0 Cut 0", "3 c0 l1 Dropped 0", "5 c0 l-1 Ended 0"}},
		{3, 3, 3, "{3 2 0 [{4 0 0}]}", []string{"3 c0 l0 Cut 0", "3 c0 l-1 Ended 0", "3 c0 l1 Dropped 0"}},
		{3, 9, 3, "{3 2 0 [{4 0 0}]}", []string{"3 c0 l0 Cut 0", "3 c0 l-1 Ended 0", "3 c0 l1 Dropped 0"}},
		{9, 3, 3, "{3 2 0 [{4 1 0}]}", []string{"3 c0 l1 Cut 0", "3 c0 l-1 Ended 0"}},
		{3, 3, 2, "{2 1 1 []}", []string{"2 c0 l-1 Ended 0"}},
	} {
		expectRun(t, stack(limitOf(c.outer), limitOf(c.inner)), []api.Client{clientAt(0, value(1, c.takes))}, []string{c.outcome},
			append([]string{"0 c0 l-1 Began 0"}, c.events...)...)
	}
	// The inner one began later, and its time is over at the same time.
	expectRun(t, stack(limitOf(5), layerOf(api.Retry, 2, 2, 1, 2), limitOf(3)), []api.Client{clientAt(0, fails(1, 0), value(2, 9))},
		[]string{"{5 2 0 [{4 0 0}]}"},
		"0 c0 l-1 Began 0", "0 c0 l-1 Ended 0", "0 c0 l1 Paused 2", "2 c0 l-1 Began 1", "5 c0 l0 Cut 0", "5 c0 l2 Dropped 0", "11 c0 l-1 Ended 1")
}

func TestCutReachesAllTasksThatBeganInTheNewOne(t *testing.T) {
	// Three new tasks within one another, two waiting in a Limit and the last one in the pause of a Retry: dropped in the order of their numbers.
	client := []api.Client{clientAt(0, fails(1, 1))}
	again := layerOf(api.Retry, 5, 10, 1, 10)
	until1 := []string{"0 c0 l0 Took 0", "0 c0 l-1 Began 0", "1 c0 l-1 Ended 0", "1 c0 l4 Paused 10"}
	room := layerOf(api.Room, 1, 0)
	expectRun(t, stack(room, limitOf(4), limitOf(9), limitOf(9), again), client, []string{"{4 2 0 [{4 1 0}]}"},
		append(until1, "4 c0 l1 Cut 0", "4 c0 l0 Left 0", "4 c0 l2 Dropped 0", "4 c0 l3 Dropped 0", "4 c0 l4 Dropped 0")...)
	// The one in the middle is cut: what is outside of it is not cancelled, and goes on when its turn comes.
	expectRun(t, stack(room, limitOf(9), limitOf(4), limitOf(9), again), client, []string{"{4 2 0 [{4 2 0}]}"},
		append(until1, "4 c0 l2 Cut 0", "4 c0 l3 Dropped 0", "4 c0 l4 Dropped 0", "4 c0 l0 Left 0")...)
	expectRun(t, stack(room, limitOf(9), limitOf(9), limitOf(4), again), client, []string{"{4 2 0 [{4 3 0}]}"},
		append(until1, "4 c0 l3 Cut 0", "4 c0 l4 Dropped 0", "4 c0 l0 Left 0")...)
}

func TestCutOutsideOfEarlierCuts(t *testing.T) {
	// Two attempts were cut and go on in the backend; of the third one the wait is cancelled.
	expectRun(t, stack(limitOf(5), layerOf(api.Retry, 4, 0, 1, 0), limitOf(2)), []api.Client{clientAt(0, value(1, 9), fails(2, 9), blows(3, 9))},
		[]string{"{5 2 0 [{4 0 0}]}"},
		"0 c0 l-1 Began 0", "2 c0 l2 Cut 0", "2 c0 l1 Paused 0", "2 c0 l-1 Began 1", "4 c0 l2 Cut 0", "4 c0 l1 Paused 0", "4 c0 l-1 Began 2",
		"5 c0 l0 Cut 0", "5 c0 l2 Dropped 0", "9 c0 l-1 Ended 0", "11 c0 l-1 Ended 1", "13 c0 l-1 Ended 2")
}

func TestOthersAreNotCancelled(t *testing.T) {
	// Client 0 is cut in its pause; client 1, with the same layers, pauses on.
	expectRun(t, stack(limitOf(5), layerOf(api.Retry, 2, 4, 1, 4)), []api.Client{clientAt(0, fails(1, 2)), clientAt(2, fails(2, 0), value(3, 0))},
		[]string{"{5 2 0 [{4 0 0}]}", "{6 1 3 []}"},
		"0 c0 l-1 Began 0", "2 c0 l-1 Ended 0", "2 c0 l1 Paused 4", "2 c1 l-1 Began 0", "2 c1 l-1 Ended 0", "2 c1 l1 Paused 4",
		"5 c0 l0 Cut 0", "5 c0 l1 Dropped 0", "6 c1 l-1 Began 1", "6 c1 l-1 Ended 1")
}

func TestWaitInALineIsCancelled(t *testing.T) {
	// Client 0 is cut at 6, but has the place until 8. Client 1 is cut in the line, so that the place comes to client 2, who is behind it.
	expectRun(t, stack(limitOf(6), layerOf(api.Room, 1, 9)), []api.Client{clientAt(0, value(1, 8)), clientAt(1), clientAt(3, value(2, 0))},
		[]string{"{6 2 0 [{4 0 0}]}", "{7 2 0 [{4 0 0}]}", "{8 1 2 []}"},
		"0 c0 l1 Took 0", "0 c0 l-1 Began 0", "1 c1 l1 Waited 0", "3 c2 l1 Waited 0",
		"6 c0 l0 Cut 0", "7 c1 l0 Cut 0", "7 c1 l1 Dropped 0",
		"8 c0 l-1 Ended 0", "8 c0 l1 Left 0", "8 c2 l1 Took 0", "8 c2 l-1 Began 0", "8 c2 l-1 Ended 0", "8 c2 l1 Left 0")
	// The wait's own time is over at the same time: ahead of the cut only if it is shorter.
	expectOwn(t, stack(limitOf(2), layerOf(api.Room, 1, 2)), []api.Client{clientAt(0, value(1, 8)), clientAt(1)}, 1,
		"0 c0 Took, 1 c1 Waited, 3 c1 Dropped, 8 c0 Left")
	expectOwn(t, stack(limitOf(2), layerOf(api.Room, 1, 1)), []api.Client{clientAt(0, value(1, 8)), clientAt(1)}, 1,
		"0 c0 Took, 1 c1 Waited, 2 c1 Refused, 8 c0 Left")
}

func TestCancelledTaskGivesItsPlaceBackLater(t *testing.T) {
	for _, turn := range []api.Turn{value(1, 4), fails(1, 4), final(1, 4), blows(1, 4)} {
		expectRun(t, stack(limitOf(2), layerOf(api.Room, 1, 0)), []api.Client{clientAt(0, turn), clientAt(3), clientAt(5, value(2, 0))},
			[]string{"{2 2 0 [{4 0 0}]}", "{3 2 0 [{3 1 0}]}", "{5 1 2 []}"},
			"0 c0 l1 Took 0", "0 c0 l-1 Began 0", "2 c0 l0 Cut 0", "3 c1 l1 Refused 0", "4 c0 l-1 Ended 0", "4 c0 l1 Left 0",
			"5 c2 l1 Took 0", "5 c2 l-1 Began 0", "5 c2 l-1 Ended 0", "5 c2 l1 Left 0")
	}
	// Outside the Limit the place is given back at the cut.
	expectRun(t, stack(layerOf(api.Room, 1, 9), limitOf(2)), []api.Client{clientAt(0, value(1, 5)), clientAt(1, value(2, 1))},
		[]string{"{2 2 0 [{4 1 0}]}", "{3 1 2 []}"},
		"0 c0 l0 Took 0", "0 c0 l-1 Began 0", "1 c1 l0 Waited 0", "2 c0 l1 Cut 0", "2 c0 l0 Left 0",
		"2 c1 l0 Took 0", "2 c1 l-1 Began 0", "3 c1 l-1 Ended 0", "3 c1 l0 Left 0", "5 c0 l-1 Ended 0")
}

func TestPlaceAndCutAtTheSameTime(t *testing.T) {
	// The end of client 0's turn was on the agenda ahead of client 1's limit: the place comes first, and the cancelled task takes it.
	expectRun(t, stack(limitOf(3), layerOf(api.Room, 1, 9)), []api.Client{clientAt(0, value(1, 4)), clientAt(1, value(2, 2)), clientAt(5, value(3, 0))},
		[]string{"{3 2 0 [{4 0 0}]}", "{4 2 0 [{4 0 0}]}", "{6 1 3 []}"},
		"0 c0 l1 Took 0", "0 c0 l-1 Began 0", "1 c1 l1 Waited 0", "3 c0 l0 Cut 0",
		"4 c0 l-1 Ended 0", "4 c0 l1 Left 0", "4 c1 l0 Cut 0", "4 c1 l1 Took 0", "4 c1 l-1 Began 0",
		"5 c2 l1 Waited 0", "6 c1 l-1 Ended 0", "6 c1 l1 Left 0", "6 c2 l1 Took 0", "6 c2 l-1 Began 0", "6 c2 l-1 Ended 0", "6 c2 l1 Left 0")
	// Behind it: client 1 is in the line no more, and the place comes to client 2.
	expectRun(t, stack(limitOf(3), layerOf(api.Room, 1, 9)), []api.Client{clientAt(0, value(1, 3)), clientAt(0, value(2, 2)), clientAt(1, value(3, 0))},
		[]string{"{3 2 0 [{4 0 0}]}", "{3 2 0 [{4 0 0}]}", "{3 1 3 []}"},
		"0 c0 l1 Took 0", "0 c0 l-1 Began 0", "0 c1 l1 Waited 0", "1 c2 l1 Waited 0",
		"3 c0 l0 Cut 0", "3 c1 l0 Cut 0", "3 c0 l-1 Ended 0", "3 c0 l1 Left 0", "3 c1 l1 Dropped 0",
		"3 c2 l1 Took 0", "3 c2 l-1 Began 0", "3 c2 l-1 Ended 0", "3 c2 l1 Left 0")
	// The same with nobody behind: the place is free.
	expectOwn(t, stack(limitOf(3), layerOf(api.Room, 1, 9)), []api.Client{clientAt(0, value(1, 3)), clientAt(0, value(2, 2)), clientAt(4, value(3, 0))}, 1,
		"0 c0 Took, 0 c1 Waited, 3 c0 Left, 3 c1 Dropped, 4 c2 Took, 4 c2 Left")
}

func TestCancelledTaskComesToARoom(t *testing.T) {
	// At 4 client 0 gives back a place in each Room, the inner one to client 1 and the outer one to client 2; then both are cut. Client 2 finds the inner Room full.
	expectRun(t, stack(limitOf(3), layerOf(api.Room, 2, 9), layerOf(api.Room, 1, 9)), []api.Client{clientAt(0, value(1, 4)), clientAt(1, value(2, 1)), clientAt(1)},
		[]string{"{3 2 0 [{4 0 0}]}", "{4 2 0 [{4 0 0}]}", "{4 2 0 [{4 0 0}]}"},
		"0 c0 l1 Took 0", "0 c0 l2 Took 0", "0 c0 l-1 Began 0", "1 c1 l1 Took 0", "1 c1 l2 Waited 0", "1 c2 l1 Waited 0", "3 c0 l0 Cut 0",
		"4 c0 l-1 Ended 0", "4 c0 l2 Left 0", "4 c0 l1 Left 0", "4 c1 l0 Cut 0", "4 c2 l0 Cut 0",
		"4 c1 l2 Took 0", "4 c1 l-1 Began 0", "4 c2 l1 Took 0", "4 c2 l2 Waited 0", "4 c2 l2 Dropped 0", "4 c2 l1 Left 0",
		"5 c1 l-1 Ended 0", "5 c1 l2 Left 0", "5 c1 l1 Left 0")
	// A place that is free is taken by a cancelled task like by any other, and so is a Rate's and a Breaker's leave.
	expectRun(t, stack(limitOf(3), layerOf(api.Room, 1, 9), layerOf(api.Room, 1, 9), layerOf(api.Rate, 4, 1), layerOf(api.Breaker, 1, 1, 100, 9, 1)), []api.Client{clientAt(0, value(1, 4)), clientAt(1, fails(2, 1))},
		[]string{"{3 2 0 [{4 0 0}]}", "{4 2 0 [{4 0 0}]}"},
		"0 c0 l1 Took 0", "0 c0 l2 Took 0", "0 c0 l3 Admitted 0", "0 c0 l4 Passed 0", "0 c0 l-1 Began 0", "1 c1 l1 Waited 0", "3 c0 l0 Cut 0",
		"4 c0 l-1 Ended 0", "4 c0 l2 Left 0", "4 c0 l1 Left 0", "4 c1 l0 Cut 0",
		"4 c1 l1 Took 0", "4 c1 l2 Took 0", "4 c1 l3 Admitted 0", "4 c1 l4 Passed 0", "4 c1 l-1 Began 0",
		"5 c1 l-1 Ended 0", "5 c1 l4 Opened 0", "5 c1 l2 Left 0", "5 c1 l1 Left 0")
}

func TestTasksOfOneClientShareItsTurns(t *testing.T) {
	// Client 1 is cut at 4, just when the place has come to it: its cancelled task has the first turn, its second attempt waits for that one's place and has the second turn.
	expectRun(t, stack(layerOf(api.Retry, 2, 1, 1, 1), limitOf(3), layerOf(api.Room, 1, 9)), []api.Client{clientAt(0, value(1, 4)), clientAt(1, value(5, 3), value(6, 0))},
		[]string{"{7 2 0 [{7 0 0} {4 1 0}]}", "{7 1 6 []}"},
		"0 c0 l2 Took 0", "0 c0 l-1 Began 0", "1 c1 l2 Waited 0", "3 c0 l1 Cut 0", "3 c0 l0 Paused 1",
		"4 c0 l-1 Ended 0", "4 c0 l2 Left 0", "4 c1 l1 Cut 0", "4 c1 l0 Paused 1", "4 c1 l2 Took 0", "4 c1 l-1 Began 0", "4 c0 l2 Waited 0",
		"5 c1 l2 Waited 0",
		"7 c0 l1 Cut 0", "7 c0 l0 GaveUp 0", "7 c1 l-1 Ended 0", "7 c1 l2 Left 0", "7 c0 l2 Dropped 0",
		"7 c1 l2 Took 0", "7 c1 l-1 Began 1", "7 c1 l-1 Ended 1", "7 c1 l2 Left 0")
}

func TestLateCountsInABreaker(t *testing.T) {
	expectRun(t, stack(layerOf(api.Breaker, 2, 2, 100, 9, 1), limitOf(3)), []api.Client{clientAt(0, value(1, 4)), clientAt(1, value(2, 3)), clientAt(5)},
		[]string{"{3 2 0 [{4 1 0}]}", "{4 2 0 [{4 1 0}]}", "{5 2 0 [{3 0 0}]}"},
		"0 c0 l0 Passed 0", "0 c0 l-1 Began 0", "1 c1 l0 Passed 0", "1 c1 l-1 Began 0",
		"3 c0 l1 Cut 0", "4 c0 l-1 Ended 0", "4 c1 l1 Cut 0", "4 c1 l0 Opened 0", "4 c1 l-1 Ended 0", "5 c2 l0 Refused 0")
	// Behind a GaveUp as well, and as a probe.
	expectOwn(t, stack(layerOf(api.Breaker, 1, 1, 100, 2, 1), layerOf(api.Retry, 2, 0, 1, 0), limitOf(1)), []api.Client{clientAt(0, value(1, 1), value(1, 1)), clientAt(3), clientAt(4, value(1, 9), value(2, 9)), clientAt(5)}, 0,
		"0 c0 Passed, 2 c0 Opened, 3 c1 Refused, 4 c2 Halved, 4 c2 Passed, 5 c3 Refused, 6 c2 Opened")
}

func TestCancelledDoesNotCountInABreaker(t *testing.T) {
	again := layerOf(api.Retry, 9, 9, 1, 9)
	expectRun(t, stack(limitOf(3), layerOf(api.Breaker, 1, 1, 1, 9, 1), again), []api.Client{clientAt(0, fails(1, 0)), clientAt(4, final(2, 0)), clientAt(5)},
		[]string{"{3 2 0 [{4 0 0}]}", "{4 2 0 [{2 -1 2}]}", "{5 2 0 [{3 1 0}]}"},
		"0 c0 l1 Passed 0", "0 c0 l-1 Began 0", "0 c0 l-1 Ended 0", "0 c0 l2 Paused 9", "3 c0 l0 Cut 0", "3 c0 l2 Dropped 0",
		"4 c1 l1 Passed 0", "4 c1 l-1 Began 0", "4 c1 l-1 Ended 0", "4 c1 l1 Opened 0", "5 c2 l1 Refused 0")
	// In the half open one client 1 is a probe until its wait is cancelled at 4.
	expectOwn(t, stack(limitOf(3), layerOf(api.Breaker, 1, 1, 100, 1, 1), again), []api.Client{clientAt(0, final(1, 0)), clientAt(1, fails(2, 0)), clientAt(2), clientAt(5, value(3, 0))}, 1,
		"0 c0 Passed, 0 c0 Opened, 1 c1 Halved, 1 c1 Passed, 2 c2 Refused, 5 c3 Passed, 5 c3 Closed")
	// A Room's and a Limit's Dropped are of the same kind.
	expectOwn(t, stack(limitOf(3), layerOf(api.Breaker, 1, 1, 1, 9, 1), layerOf(api.Room, 1, 9)), []api.Client{clientAt(0, value(1, 8)), clientAt(1), clientAt(5)}, 1,
		"0 c0 Passed, 1 c1 Passed, 5 c2 Passed")
	expectOwn(t, stack(limitOf(3), layerOf(api.Breaker, 1, 1, 1, 9, 1), limitOf(9)), []api.Client{clientAt(0, value(1, 8)), clientAt(1, value(1, 8)), clientAt(5)}, 1,
		"0 c0 Passed, 1 c1 Passed, 5 c2 Passed")
}

func TestWhatComesBackInACancelledTaskCountsInABreaker(t *testing.T) {
	for _, turn := range []api.Turn{fails(1, 4), final(1, 4), blows(1, 4)} {
		expectRun(t, stack(limitOf(2), layerOf(api.Breaker, 1, 1, 100, 9, 1)), []api.Client{clientAt(0, turn), clientAt(3, value(2, 0)), clientAt(5)},
			[]string{"{2 2 0 [{4 0 0}]}", "{3 1 2 []}", "{5 2 0 [{3 1 0}]}"},
			"0 c0 l1 Passed 0", "0 c0 l-1 Began 0", "2 c0 l0 Cut 0", "3 c1 l1 Passed 0", "3 c1 l-1 Began 0", "3 c1 l-1 Ended 0",
			"4 c0 l-1 Ended 0", "4 c0 l1 Opened 0", "5 c2 l1 Refused 0")
	}
	expectOwn(t, stack(limitOf(2), layerOf(api.Breaker, 1, 1, 100, 9, 1)), []api.Client{clientAt(0, value(1, 4)), clientAt(5)}, 1,
		"0 c0 Passed, 5 c1 Passed")
}

func TestLimitAndRate(t *testing.T) {
	// Within the Limit and outside of it, each attempt counts, be it cut or not.
	client := []api.Client{clientAt(0, value(1, 9), value(2, 9), value(3, 0))}
	again := layerOf(api.Retry, 4, 0, 1, 0)
	expectRun(t, stack(again, layerOf(api.Rate, 10, 2), limitOf(3)), client,
		[]string{"{6 2 0 [{7 0 0} {3 1 0}]}"},
		"0 c0 l1 Admitted 0", "0 c0 l-1 Began 0", "3 c0 l2 Cut 0", "3 c0 l0 Paused 0", "3 c0 l1 Admitted 0", "3 c0 l-1 Began 1",
		"6 c0 l2 Cut 0", "6 c0 l0 Paused 0", "6 c0 l1 Refused 0", "6 c0 l0 Paused 0", "6 c0 l1 Refused 0", "6 c0 l0 GaveUp 0",
		"9 c0 l-1 Ended 0", "12 c0 l-1 Ended 1")
	expectRun(t, stack(again, limitOf(3), layerOf(api.Rate, 10, 2)), client,
		[]string{"{6 2 0 [{7 0 0} {3 2 0}]}"},
		"0 c0 l2 Admitted 0", "0 c0 l-1 Began 0", "3 c0 l1 Cut 0", "3 c0 l0 Paused 0", "3 c0 l2 Admitted 0", "3 c0 l-1 Began 1",
		"6 c0 l1 Cut 0", "6 c0 l0 Paused 0", "6 c0 l2 Refused 0", "6 c0 l0 Paused 0", "6 c0 l2 Refused 0", "6 c0 l0 GaveUp 0",
		"9 c0 l-1 Ended 0", "12 c0 l-1 Ended 1")
	// Outside of it the Rate is asked at once, within it when the new task begins.
	clients := startsAt(0, 0)
	expectRun(t, stack(layerOf(api.Rate, 10, 2), limitOf(3)), clients, []string{"{0 1 0 []}", "{0 1 0 []}"},
		"0 c0 l0 Admitted 0", "0 c1 l0 Admitted 0", "0 c0 l-1 Began 0", "0 c0 l-1 Ended 0", "0 c1 l-1 Began 0", "0 c1 l-1 Ended 0")
	expectRun(t, stack(limitOf(3), layerOf(api.Rate, 10, 1)), clients, []string{"{0 1 0 []}", "{0 2 0 [{3 1 0}]}"},
		"0 c0 l1 Admitted 0", "0 c0 l-1 Began 0", "0 c0 l-1 Ended 0", "0 c1 l1 Refused 0")
}

// TestNothingComesBackBehindALimit: what comes out of an outermost Limit does so by its time; just then, if it was cut, and ahead of that else. A client's own task is never cancelled.
func TestNothingComesBackBehindALimit(t *testing.T) {
	r := rand.New(rand.NewSource(9))
	cuts, others := 0, 0
	for range 4000 {
		layers, clients := someLayers(r), someClients(r)
		l := someLayer(r, api.Limit)
		layers = append(stack(l), layers[:min(len(layers), api.MaxLayers-1)]...)
		report, _, _ := Run(layers, clients)
		for i, o := range report.Outcomes {
			isCut := fmt.Sprint(o.Chain) == "[{4 0 0}]"
			over := o.At - clients[i].Start - l.A
			if over > 0 || isCut != (over == 0) || lastLink(o) == api.LinkCancelled {
				t.Fatalf("P12: %v, %v: client %d: %v", layers, clients, i, o)
			}
			if isCut {
				cuts++
			} else {
				others++
			}
		}
	}
	if cuts < 500 || others < 500 {
		t.Errorf("only %d were cut, and %d were not", cuts, others)
	}
}
