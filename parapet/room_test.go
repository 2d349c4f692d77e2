package parapet

import (
	"fmt"
	"strings"
	"testing"

	"parapet/api"
)

func TestRoomTakesWaitsAndRefuses(t *testing.T) {
	turn := value(1, 4)
	expectRun(t, stack(layerOf(api.Room, 1, 5)), []api.Client{clientAt(0, turn), clientAt(1, turn), clientAt(2, turn)},
		[]string{"{4 1 1 []}", "{8 1 1 []}", "{7 2 0 [{3 0 0}]}"},
		"0 c0 l0 Took 0", "0 c0 l-1 Began 0",
		"1 c1 l0 Waited 0", "2 c2 l0 Waited 0",
		"4 c0 l-1 Ended 0", "4 c0 l0 Left 0", "4 c1 l0 Took 0", "4 c1 l-1 Began 0",
		"7 c2 l0 Refused 0",
		"8 c1 l-1 Ended 0", "8 c1 l0 Left 0")
}

func TestRoomWithoutAWait(t *testing.T) {
	// At 4 client 2 comes ahead of the end of client 0's turn, client 1 behind it: its pause began later than that turn.
	expectOwn(t, stack(layerOf(api.Retry, 2, 3, 1, 3), layerOf(api.Room, 1, 0)), []api.Client{clientAt(0, value(1, 4)), clientAt(1, value(2, 1)), clientAt(4, value(3, 0))}, 1,
		"0 c0 Took, 1 c1 Refused, 4 c2 Refused, 4 c0 Left, 4 c1 Took, 5 c1 Left, 7 c2 Took, 7 c2 Left")
	expectRun(t, stack(layerOf(api.Room, 2, 0)), []api.Client{clientAt(0, value(1, 1)), clientAt(0, value(2, 2)), clientAt(0, value(3, 1)), clientAt(2, value(4, 0))},
		[]string{"{1 1 1 []}", "{2 1 2 []}", "{0 2 0 [{3 0 0}]}", "{2 1 4 []}"},
		"0 c0 l0 Took 0", "0 c0 l-1 Began 0", "0 c1 l0 Took 0", "0 c1 l-1 Began 0", "0 c2 l0 Refused 0",
		"1 c0 l-1 Ended 0", "1 c0 l0 Left 0",
		"2 c3 l0 Took 0", "2 c3 l-1 Began 0", "2 c3 l-1 Ended 0", "2 c3 l0 Left 0",
		"2 c1 l-1 Ended 0", "2 c1 l0 Left 0")
}

func TestRoomHasJustItsPlaces(t *testing.T) {
	for places := 1; places <= 9; places++ {
		for _, longest := range []int{0, 1, 1000} {
			var clients []api.Client
			var first, last []string
			for i := range api.MaxClients {
				clients = append(clients, clientAt(3, value(i, 5)))
				switch {
				case i < places:
					first = append(first, fmt.Sprintf("3 c%d Took", i))
					last = append(last, fmt.Sprintf("8 c%d Left", i))
				case longest == 0:
					first = append(first, fmt.Sprintf("3 c%d Refused", i))
				default:
					first = append(first, fmt.Sprintf("3 c%d Waited", i))
				}
			}
			r, _, _ := Run(stack(layerOf(api.Room, places, longest)), clients)
			own := ownEvents(r.Events, 0)
			if !strings.HasPrefix(own, strings.Join(first, ", ")) {
				t.Errorf("P11: %d places, %d at most:\n     %s\nwant %s, ..", places, longest, own, strings.Join(first, ", "))
			}
			if longest == 0 && !strings.HasSuffix(own, strings.Join(last, ", ")) {
				t.Errorf("P11: %d places:\n     %s\nwant .., %s", places, own, strings.Join(last, ", "))
			}
		}
	}
}

func TestRoomIsFullOrHasOnePlaceLeft(t *testing.T) {
	turn := value(1, 9)
	expectOwn(t, stack(layerOf(api.Room, 3, 2)), []api.Client{clientAt(0, turn), clientAt(0, turn), clientAt(1, turn), clientAt(2, turn)}, 0,
		"0 c0 Took, 0 c1 Took, 1 c2 Took, 2 c3 Waited, 4 c3 Refused, 9 c0 Left, 9 c1 Left, 10 c2 Left")
	// One left ahead of it.
	expectOwn(t, stack(layerOf(api.Room, 3, 2)), []api.Client{clientAt(0, turn), clientAt(0, value(2, 1)), clientAt(1, turn), clientAt(2, turn)}, 0,
		"0 c0 Took, 0 c1 Took, 1 c2 Took, 1 c1 Left, 2 c3 Took, 9 c0 Left, 10 c2 Left, 11 c3 Left")
}

func TestPlaceThatComesAtTheEndOfAWait(t *testing.T) {
	turn := value(2, 1)
	// The entry of the turn was put on the agenda first: the place comes ahead of the wait's end.
	expectRun(t, stack(layerOf(api.Room, 1, 4)), []api.Client{clientAt(0, value(1, 4)), clientAt(0, turn)},
		[]string{"{4 1 1 []}", "{5 1 2 []}"},
		"0 c0 l0 Took 0", "0 c0 l-1 Began 0", "0 c1 l0 Waited 0",
		"4 c0 l-1 Ended 0", "4 c0 l0 Left 0", "4 c1 l0 Took 0", "4 c1 l-1 Began 0", "5 c1 l-1 Ended 0", "5 c1 l0 Left 0")
	// Client 0's second turn begins at 2, behind the wait of client 1: the wait's time is over first, and the place comes to nobody.
	again := layerOf(api.Retry, 2, 0, 1, 0)
	expectRun(t, stack(layerOf(api.Room, 1, 4), again), []api.Client{clientAt(0, fails(1, 2), value(3, 3)), clientAt(1, turn), clientAt(5, turn), clientAt(6, turn)},
		[]string{"{5 1 3 []}", "{5 2 0 [{3 0 0}]}", "{6 1 2 []}", "{7 1 2 []}"},
		"0 c0 l0 Took 0", "0 c0 l-1 Began 0", "1 c1 l0 Waited 0",
		"2 c0 l-1 Ended 0", "2 c0 l1 Paused 0", "2 c0 l-1 Began 1",
		"5 c2 l0 Waited 0", "5 c1 l0 Refused 0", "5 c0 l-1 Ended 1", "5 c0 l0 Left 0", "5 c2 l0 Took 0", "5 c2 l-1 Began 0",
		"6 c3 l0 Waited 0", "6 c2 l-1 Ended 0", "6 c2 l0 Left 0", "6 c3 l0 Took 0", "6 c3 l-1 Began 0",
		"7 c3 l-1 Ended 0", "7 c3 l0 Left 0")
	// The same without a line: nobody has the place then, and it is free.
	expectOwn(t, stack(layerOf(api.Room, 1, 4), again), []api.Client{clientAt(0, fails(1, 2), value(3, 3)), clientAt(1, turn), clientAt(6, turn)}, 0,
		"0 c0 Took, 1 c1 Waited, 5 c1 Refused, 5 c0 Left, 6 c2 Took, 7 c2 Left")
	// Short waits, and long ones.
	expectOwn(t, stack(layerOf(api.Room, 1, 1)), []api.Client{clientAt(0, value(1, 2)), clientAt(0, turn), clientAt(1, turn), clientAt(2, turn)}, 0,
		"0 c0 Took, 0 c1 Waited, 1 c2 Waited, 1 c1 Refused, 2 c3 Waited, 2 c0 Left, 2 c2 Took, 3 c3 Refused, 3 c2 Left")
	expectOwn(t, stack(layerOf(api.Room, 1, 1000)), []api.Client{clientAt(0, value(1, 1000)), clientAt(0, turn), clientAt(1, turn)}, 0,
		"0 c0 Took, 0 c1 Waited, 1 c2 Waited, 1000 c0 Left, 1000 c1 Took, 1001 c2 Refused, 1001 c1 Left")
}

func TestLineIsInTheOrderOfWaiting(t *testing.T) {
	turn := value(1, 1)
	expectOwn(t, stack(layerOf(api.Room, 1, 99)), []api.Client{clientAt(3, turn), clientAt(2, turn), clientAt(0, value(1, 9)), clientAt(2, turn), clientAt(1, turn)}, 0,
		"0 c2 Took, 1 c4 Waited, 2 c1 Waited, 2 c3 Waited, 3 c0 Waited, 9 c2 Left, 9 c4 Took, 10 c4 Left, 10 c1 Took, 11 c1 Left, 11 c3 Took, 12 c3 Left, 12 c0 Took, 13 c0 Left")
	// Two places that are free at once come to the first two.
	expectOwn(t, stack(layerOf(api.Room, 2, 99)), []api.Client{clientAt(3, turn), clientAt(0, value(1, 5)), clientAt(0, value(1, 5)), clientAt(2, turn), clientAt(1, turn)}, 0,
		"0 c1 Took, 0 c2 Took, 1 c4 Waited, 2 c3 Waited, 3 c0 Waited, 5 c1 Left, 5 c2 Left, 5 c4 Took, 5 c3 Took, 6 c4 Left, 6 c3 Left, 6 c0 Took, 7 c0 Left")
}

func TestWhoComesBackIsAtTheEndOfTheLine(t *testing.T) {
	// Client 1 is refused at 3, and waits anew from 4 on, behind client 2 who waits since 3.
	expectOwn(t, stack(layerOf(api.Retry, 2, 1, 1, 1), layerOf(api.Room, 1, 3)), []api.Client{clientAt(0, value(1, 5)), clientAt(0), clientAt(3, value(1, 1))}, 1,
		"0 c0 Took, 0 c1 Waited, 3 c2 Waited, 3 c1 Refused, 4 c1 Waited, 5 c0 Left, 5 c2 Took, 6 c2 Left, 6 c1 Took, 6 c1 Left")
	// Who has left is behind those who wait, too.
	expectOwn(t, stack(layerOf(api.Retry, 2, 0, 1, 0), layerOf(api.Room, 1, 9)), []api.Client{clientAt(0, fails(1, 2), value(2, 0)), clientAt(1, value(1, 1)), clientAt(2, value(1, 1))}, 1,
		"0 c0 Took, 1 c1 Waited, 2 c2 Waited, 2 c0 Left, 2 c0 Waited, 2 c1 Took, 3 c1 Left, 3 c2 Took, 4 c2 Left, 4 c0 Took, 4 c0 Left")
}

func TestWhoseTimeIsOverIsNotInTheLine(t *testing.T) {
	turn := value(1, 1)
	// The first two are refused, the place comes to the third.
	expectOwn(t, stack(layerOf(api.Room, 1, 4)), []api.Client{clientAt(0, value(1, 7)), clientAt(1, turn), clientAt(2, turn), clientAt(4, turn), clientAt(5, turn)}, 0,
		"0 c0 Took, 1 c1 Waited, 2 c2 Waited, 4 c3 Waited, 5 c4 Waited, 5 c1 Refused, 6 c2 Refused, 7 c0 Left, 7 c3 Took, 8 c3 Left, 8 c4 Took, 9 c4 Left")
	// All are refused: the place is free for the next, and there is just one.
	expectOwn(t, stack(layerOf(api.Room, 1, 2)), []api.Client{clientAt(0, value(1, 7)), clientAt(1, turn), clientAt(2, turn), clientAt(8, turn), clientAt(8, turn)}, 0,
		"0 c0 Took, 1 c1 Waited, 2 c2 Waited, 3 c1 Refused, 4 c2 Refused, 7 c0 Left, 8 c3 Took, 8 c4 Waited, 9 c3 Left, 9 c4 Took, 10 c4 Left")
}

func TestPlaceThatPassesOnStaysTaken(t *testing.T) {
	// Client 2, whom the Rate refused at 2, comes to the Room at 4 when client 0 has left, but client 1 has not gone on yet: it finds no place free.
	layers := stack(layerOf(api.Retry, 2, 2, 1, 2), layerOf(api.Rate, 3, 2), layerOf(api.Room, 1, 9))
	expectRun(t, layers, []api.Client{clientAt(0, value(1, 4)), clientAt(1, value(2, 3)), clientAt(2, value(3, 0))},
		[]string{"{4 1 1 []}", "{7 1 2 []}", "{7 1 3 []}"},
		"0 c0 l1 Admitted 0", "0 c0 l2 Took 0", "0 c0 l-1 Began 0",
		"1 c1 l1 Admitted 0", "1 c1 l2 Waited 0",
		"2 c2 l1 Refused 0", "2 c2 l0 Paused 2",
		"4 c0 l-1 Ended 0", "4 c0 l2 Left 0", "4 c2 l1 Admitted 0", "4 c2 l2 Waited 0", "4 c1 l2 Took 0", "4 c1 l-1 Began 0",
		"7 c1 l-1 Ended 0", "7 c1 l2 Left 0", "7 c2 l2 Took 0", "7 c2 l-1 Began 0", "7 c2 l-1 Ended 0", "7 c2 l2 Left 0")
	// Of two places one passes on twice, while the other stays taken.
	layers = stack(layerOf(api.Room, 2, 9), layerOf(api.Guard))
	expectOwn(t, layers, []api.Client{clientAt(0, value(1, 4)), clientAt(0, value(1, 9)), clientAt(1, value(2, 1)), clientAt(4, value(2, 2)), clientAt(5)}, 0,
		"0 c0 Took, 0 c1 Took, 1 c2 Waited, 4 c3 Waited, 4 c0 Left, 4 c2 Took, 5 c4 Waited, 5 c2 Left, 5 c3 Took, 7 c3 Left, 7 c4 Took, 7 c4 Left, 9 c1 Left")
}

func TestWhateverComesBackGivesThePlaceBack(t *testing.T) {
	for _, c := range []struct {
		turn    api.Turn
		outcome string
	}{
		{value(7, 2), "{2 1 7 []}"},
		{fails(7, 2), "{2 2 0 [{1 -1 7}]}"},
		{final(7, 2), "{2 2 0 [{2 -1 7}]}"},
		{blows(7, 2), "{2 3 7 []}"},
	} {
		// With somebody in the line, and with nobody.
		expectRun(t, stack(layerOf(api.Room, 1, 5)), []api.Client{clientAt(0, c.turn), clientAt(1, value(8, 0)), clientAt(3, value(9, 0))},
			[]string{c.outcome, "{2 1 8 []}", "{3 1 9 []}"},
			"0 c0 l0 Took 0", "0 c0 l-1 Began 0", "1 c1 l0 Waited 0",
			"2 c0 l-1 Ended 0", "2 c0 l0 Left 0", "2 c1 l0 Took 0", "2 c1 l-1 Began 0", "2 c1 l-1 Ended 0", "2 c1 l0 Left 0",
			"3 c2 l0 Took 0", "3 c2 l-1 Began 0", "3 c2 l-1 Ended 0", "3 c2 l0 Left 0")
		expectRun(t, stack(layerOf(api.Room, 1, 0)), []api.Client{clientAt(0, c.turn), clientAt(3, value(9, 0))},
			[]string{c.outcome, "{3 1 9 []}"},
			"0 c0 l0 Took 0", "0 c0 l-1 Began 0", "2 c0 l-1 Ended 0", "2 c0 l0 Left 0",
			"3 c1 l0 Took 0", "3 c1 l-1 Began 0", "3 c1 l-1 Ended 0", "3 c1 l0 Left 0")
	}
}

func TestRoomOutsideARetryKeepsThePlaceInThePause(t *testing.T) {
	expectRun(t, stack(layerOf(api.Room, 1, 9), layerOf(api.Retry, 2, 3, 1, 3)), []api.Client{clientAt(0, fails(1, 1), fails(2, 1)), clientAt(1, value(3, 0))},
		[]string{"{5 2 0 [{7 1 0} {1 -1 2}]}", "{5 1 3 []}"},
		"0 c0 l0 Took 0", "0 c0 l-1 Began 0", "1 c1 l0 Waited 0", "1 c0 l-1 Ended 0", "1 c0 l1 Paused 3",
		"4 c0 l-1 Began 1", "5 c0 l-1 Ended 1", "5 c0 l1 GaveUp 0", "5 c0 l0 Left 0",
		"5 c1 l0 Took 0", "5 c1 l-1 Began 0", "5 c1 l-1 Ended 0", "5 c1 l0 Left 0")
}

func TestRoomInsideARetryGivesThePlaceBackAtEachAttempt(t *testing.T) {
	expectRun(t, stack(layerOf(api.Retry, 2, 3, 1, 3), layerOf(api.Room, 1, 2)), []api.Client{clientAt(0, fails(1, 1), value(2, 0)), clientAt(0, value(3, 9)), clientAt(9, value(4, 0))},
		[]string{"{6 2 0 [{7 0 0} {3 1 0}]}", "{10 1 3 []}", "{10 1 4 []}"},
		"0 c0 l1 Took 0", "0 c0 l-1 Began 0", "0 c1 l1 Waited 0",
		"1 c0 l-1 Ended 0", "1 c0 l1 Left 0", "1 c0 l0 Paused 3", "1 c1 l1 Took 0", "1 c1 l-1 Began 0",
		"4 c0 l1 Waited 0", "6 c0 l1 Refused 0", "6 c0 l0 GaveUp 0",
		"9 c2 l1 Waited 0", "10 c1 l-1 Ended 0", "10 c1 l1 Left 0", "10 c2 l1 Took 0", "10 c2 l-1 Began 0", "10 c2 l-1 Ended 0", "10 c2 l1 Left 0")
}

func TestRoomAndGuard(t *testing.T) {
	clients := []api.Client{clientAt(0, blows(4, 1)), clientAt(0, value(5, 0))}
	expectRun(t, stack(layerOf(api.Guard), layerOf(api.Room, 1, 3)), clients,
		[]string{"{1 2 0 [{6 0 4}]}", "{1 1 5 []}"},
		"0 c0 l1 Took 0", "0 c0 l-1 Began 0", "0 c1 l1 Waited 0",
		"1 c0 l-1 Ended 0", "1 c0 l1 Left 0", "1 c0 l0 Caught 4",
		"1 c1 l1 Took 0", "1 c1 l-1 Began 0", "1 c1 l-1 Ended 0", "1 c1 l1 Left 0")
	expectRun(t, stack(layerOf(api.Room, 1, 3), layerOf(api.Guard)), clients,
		[]string{"{1 2 0 [{6 1 4}]}", "{1 1 5 []}"},
		"0 c0 l0 Took 0", "0 c0 l-1 Began 0", "0 c1 l0 Waited 0",
		"1 c0 l-1 Ended 0", "1 c0 l1 Caught 4", "1 c0 l0 Left 0",
		"1 c1 l0 Took 0", "1 c1 l-1 Began 0", "1 c1 l-1 Ended 0", "1 c1 l0 Left 0")
}

func TestRoomAndRate(t *testing.T) {
	clients := []api.Client{clientAt(0, value(1, 2)), clientAt(0, value(2, 2)), clientAt(1, value(3, 0))}
	// Outside, the Rate admits what the Room then lets wait; inside, it is asked when a place has come.
	expectRun(t, stack(layerOf(api.Rate, 2, 2), layerOf(api.Room, 1, 2)), clients,
		[]string{"{2 1 1 []}", "{4 1 2 []}", "{1 2 0 [{3 0 0}]}"},
		"0 c0 l0 Admitted 0", "0 c0 l1 Took 0", "0 c0 l-1 Began 0", "0 c1 l0 Admitted 0", "0 c1 l1 Waited 0",
		"1 c2 l0 Refused 0",
		"2 c0 l-1 Ended 0", "2 c0 l1 Left 0", "2 c1 l1 Took 0", "2 c1 l-1 Began 0", "4 c1 l-1 Ended 0", "4 c1 l1 Left 0")
	expectRun(t, stack(layerOf(api.Room, 1, 2), layerOf(api.Rate, 3, 1)), clients,
		[]string{"{2 1 1 []}", "{2 2 0 [{3 1 0}]}", "{2 2 0 [{3 1 0}]}"},
		"0 c0 l0 Took 0", "0 c0 l1 Admitted 0", "0 c0 l-1 Began 0", "0 c1 l0 Waited 0", "1 c2 l0 Waited 0",
		"2 c0 l-1 Ended 0", "2 c0 l0 Left 0", "2 c1 l0 Took 0", "2 c1 l1 Refused 0", "2 c1 l0 Left 0",
		"2 c2 l0 Took 0", "2 c2 l1 Refused 0", "2 c2 l0 Left 0")
}

func TestRoomInsideABreaker(t *testing.T) {
	// That the Room refuses does not count: only the two failures do.
	expectRun(t, stack(layerOf(api.Breaker, 2, 2, 100, 9, 1), layerOf(api.Room, 1, 1)), []api.Client{clientAt(0, fails(1, 2)), clientAt(0), clientAt(1, fails(2, 0)), clientAt(3)},
		[]string{"{2 2 0 [{1 -1 1}]}", "{1 2 0 [{3 1 0}]}", "{2 2 0 [{1 -1 2}]}", "{3 2 0 [{3 0 0}]}"},
		"0 c0 l0 Passed 0", "0 c0 l1 Took 0", "0 c0 l-1 Began 0", "0 c1 l0 Passed 0", "0 c1 l1 Waited 0",
		"1 c2 l0 Passed 0", "1 c2 l1 Waited 0", "1 c1 l1 Refused 0",
		"2 c0 l-1 Ended 0", "2 c0 l1 Left 0", "2 c2 l1 Took 0", "2 c2 l-1 Began 0", "2 c2 l-1 Ended 0", "2 c2 l1 Left 0", "2 c2 l0 Opened 0",
		"3 c3 l0 Refused 0")
	// However many it refuses.
	expectOwn(t, stack(layerOf(api.Breaker, 1, 1, 1, 1, 1), layerOf(api.Room, 2, 2)), []api.Client{clientAt(0, value(1, 9)), clientAt(0, value(3, 9)), clientAt(0), clientAt(2), clientAt(3), clientAt(4)}, 0,
		"0 c0 Passed, 0 c1 Passed, 0 c2 Passed, 2 c3 Passed, 3 c4 Passed, 4 c5 Passed")
	// In the half open one client 3, whom the Room refuses at 4, is a probe until then; in its stead client 5 is.
	expectOwn(t, stack(layerOf(api.Breaker, 1, 1, 100, 1, 2), layerOf(api.Room, 2, 2)), []api.Client{clientAt(0, value(1, 20)), clientAt(0, fails(2, 0)), clientAt(1, value(3, 5)), clientAt(2), clientAt(3), clientAt(5)}, 0,
		"0 c0 Passed, 0 c1 Passed, 0 c1 Opened, 1 c2 Halved, 1 c2 Passed, 2 c3 Passed, 3 c4 Refused, 5 c5 Passed, 6 c5 Closed")
}

func TestRoomOutsideABreaker(t *testing.T) {
	// Whom the Breaker refuses has a place just as long.
	expectRun(t, stack(layerOf(api.Room, 1, 9), layerOf(api.Breaker, 1, 1, 100, 9, 1)), []api.Client{clientAt(0, blows(1, 2)), clientAt(1), clientAt(1)},
		[]string{"{2 3 1 []}", "{2 2 0 [{3 1 0}]}", "{2 2 0 [{3 1 0}]}"},
		"0 c0 l0 Took 0", "0 c0 l1 Passed 0", "0 c0 l-1 Began 0", "1 c1 l0 Waited 0", "1 c2 l0 Waited 0",
		"2 c0 l-1 Ended 0", "2 c0 l1 Opened 0", "2 c0 l0 Left 0",
		"2 c1 l0 Took 0", "2 c1 l1 Refused 0", "2 c1 l0 Left 0",
		"2 c2 l0 Took 0", "2 c2 l1 Refused 0", "2 c2 l0 Left 0")
}

func TestRoomsWithinRooms(t *testing.T) {
	// Who waits in the inner Room has a place in the outer one all the time, and gives it back when it is refused.
	expectRun(t, stack(layerOf(api.Room, 2, 9), layerOf(api.Room, 1, 3)), []api.Client{clientAt(0, value(1, 5)), clientAt(1), clientAt(2, blows(2, 1))},
		[]string{"{5 1 1 []}", "{4 2 0 [{3 1 0}]}", "{6 3 2 []}"},
		"0 c0 l0 Took 0", "0 c0 l1 Took 0", "0 c0 l-1 Began 0",
		"1 c1 l0 Took 0", "1 c1 l1 Waited 0", "2 c2 l0 Waited 0",
		"4 c1 l1 Refused 0", "4 c1 l0 Left 0", "4 c2 l0 Took 0", "4 c2 l1 Waited 0",
		"5 c0 l-1 Ended 0", "5 c0 l1 Left 0", "5 c0 l0 Left 0", "5 c2 l1 Took 0", "5 c2 l-1 Began 0",
		"6 c2 l-1 Ended 0", "6 c2 l1 Left 0", "6 c2 l0 Left 0")
	// Each has a line of its own: both are left at once, and in each somebody waits.
	expectRun(t, stack(layerOf(api.Room, 2, 9), layerOf(api.Room, 1, 9)), []api.Client{clientAt(0, value(1, 5)), clientAt(1, value(2, 1)), clientAt(2, value(3, 1))},
		[]string{"{5 1 1 []}", "{6 1 2 []}", "{7 1 3 []}"},
		"0 c0 l0 Took 0", "0 c0 l1 Took 0", "0 c0 l-1 Began 0",
		"1 c1 l0 Took 0", "1 c1 l1 Waited 0", "2 c2 l0 Waited 0",
		"5 c0 l-1 Ended 0", "5 c0 l1 Left 0", "5 c0 l0 Left 0",
		"5 c1 l1 Took 0", "5 c1 l-1 Began 0", "5 c2 l0 Took 0", "5 c2 l1 Waited 0",
		"6 c1 l-1 Ended 0", "6 c1 l1 Left 0", "6 c1 l0 Left 0", "6 c2 l1 Took 0", "6 c2 l-1 Began 0",
		"7 c2 l-1 Ended 0", "7 c2 l1 Left 0", "7 c2 l0 Left 0")
	// A narrow one outside: the inner one always has a place.
	expectOwn(t, stack(layerOf(api.Room, 1, 9), layerOf(api.Room, 2, 0), layerOf(api.Room, 1, 0)), []api.Client{clientAt(0, value(1, 2)), clientAt(0, value(1, 2))}, 2,
		"0 c0 Took, 2 c0 Left, 2 c1 Took, 4 c1 Left")
}

func TestNeverMoreInARoomThanItsPlaces(t *testing.T) {
	full, waited, twice := 0, 0, 0
	lookAtLayers(7, api.Room, func(l api.Layer, own []api.Event) {
		// A client whose first task was cut may be in the Room with that one still, and with a new one.
		inside, places := 0, map[int]int{}
		for _, e := range own {
			switch e.What {
			case api.EvTook:
				inside++
				places[e.Client]++
			case api.EvLeft:
				inside--
				places[e.Client]--
			case api.EvWaited:
				waited++
			}
			if inside > l.A || places[e.Client] < 0 {
				t.Fatalf("P13: %v: %d are in it behind %s of\n%s", l, inside, eventText(e), eventTexts(own))
			}
			if inside == l.A {
				full++
			}
			if places[e.Client] > 1 {
				twice++
			}
		}
		if inside > 0 {
			t.Fatalf("P11: %v: %v are in it in the end:\n%s", l, places, eventTexts(own))
		}
	})
	if full < 500 || waited < 500 || twice < 20 {
		t.Errorf("only %d times was a Room full, %d times was there a wait, %d times had a client two places", full, waited, twice)
	}
}

// TestWaitsInARoomAreAnswered: each Waited is followed by one Took, Refused or Dropped of the same client, Refused just when its time is over. Ahead of that the client may give a place back that it had by a task that was cut.
func TestWaitsInARoomAreAnswered(t *testing.T) {
	answers := map[int]int{}
	lookAtLayers(8, api.Room, func(l api.Layer, own []api.Event) {
		since := map[int]int{}
		for _, e := range own {
			began, waits := since[e.Client]
			right := true
			switch e.What {
			case api.EvLeft:
				continue
			case api.EvWaited:
				right = !waits && l.B > 0
			case api.EvTook:
				right = !waits || e.At <= began+l.B
			case api.EvRefused:
				right = waits && e.At == began+l.B || !waits && l.B == 0
			case api.EvDropped:
				right = waits && e.At <= began+l.B
			}
			if !right {
				t.Fatalf("P11: %v: %s in\n%s", l, eventText(e), eventTexts(own))
			}
			if waits {
				answers[e.What]++
				delete(since, e.Client)
			}
			if e.What == api.EvWaited {
				since[e.Client] = e.At
			}
		}
		if len(since) > 0 {
			t.Fatalf("P11: %v: %v wait in the end:\n%s", l, since, eventTexts(own))
		}
	})
	if answers[api.EvTook] < 100 || answers[api.EvRefused] < 100 || answers[api.EvDropped] < 100 {
		t.Errorf("too few waits ended by each cause: %v", answers)
	}
}
