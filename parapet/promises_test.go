package parapet

import (
	"math/rand"
	"reflect"
	"runtime"
	"slices"
	"sync"
	"testing"
	"time"

	"parapet/api"
)

// wildNumber is often at an edge of what the document allows, and sometimes far from it.
func wildNumber(r *rand.Rand) int {
	edges := []int{leastInt, -1, 0, 1, 2, 3, 4, 5, 6, 7, 9, 10, 20, 21, 100, 101, 1000, 1001, 10000, 10001, mostInt}
	return edges[r.Intn(len(edges))]
}

func wildInputs(r *rand.Rand) ([]api.Layer, []api.Client) {
	layers := make([]api.Layer, r.Intn(8))
	for i := range layers {
		layers[i] = api.Layer{Kind: 1 + r.Intn(6), A: 1 + r.Intn(9), B: 1, C: 1, D: wildNumber(r), E: 1}
		if r.Intn(4) == 0 {
			layers[i] = api.Layer{Kind: wildNumber(r), A: wildNumber(r), B: wildNumber(r), C: wildNumber(r), D: wildNumber(r), E: wildNumber(r)}
		}
	}
	clients := make([]api.Client, r.Intn(11))
	for i := range clients {
		clients[i].Turns = make([]api.Turn, r.Intn(api.MaxTurns+1))
		for j := range clients[i].Turns {
			clients[i].Turns[j] = api.Turn{Kind: 1 + r.Intn(4), N: wildNumber(r), Takes: r.Intn(api.MaxTime + 1)}
		}
	}
	if len(clients) > 0 && r.Intn(3) == 0 {
		c := &clients[r.Intn(len(clients))]
		c.Start = wildNumber(r)
		c.Turns = append(c.Turns, api.Turn{Kind: wildNumber(r), Takes: wildNumber(r)})
	}
	return layers, clients
}

func TestEveryCallEndsAndNonePanics(t *testing.T) {
	r := rand.New(rand.NewSource(2))
	seen := map[api.Errno]int{}
	for range 5000 {
		layers, clients := wildInputs(r)
		e, at := Check(layers, clients)
		report, f, place := Run(layers, clients)
		if e != f || at != place {
			t.Fatalf("P4: %v, %v: Check %d at %d, Run %d at %d", layers, clients, e, at, f, place)
		}
		if f == api.OK && (at != 0 || len(report.Outcomes) != len(clients)) {
			t.Fatalf("P4: %v, %v: %d, %v", layers, clients, at, report)
		}
		if f != api.OK && !reflect.DeepEqual(report, api.Report{}) {
			t.Fatalf("P1: %v, %v: beside error %d: %v", layers, clients, f, report)
		}
		seen[f]++
	}
	for e := api.OK; e <= api.ErrClient; e++ {
		if seen[e] == 0 {
			t.Errorf("the inputs never led to error %d", e)
		}
	}
}

// busyInputs: all kinds of turns and of layers, chains of several links, many entries of one time, tasks that are cancelled and go on.
func busyInputs() ([]api.Layer, []api.Client) {
	layers := stack(layerOf(api.Retry, 3, 2, 2, 3), layerOf(api.Guard), layerOf(api.Breaker, 9, 9, 60, 2, 2), layerOf(api.Limit, 1), layerOf(api.Rate, 1, 8), layerOf(api.Room, 1, 2))
	turns := []api.Turn{fails(1, 1), fails(2, 0), blows(3, 0), value(4, 0), fails(5, 1), final(6, 0)}
	var clients []api.Client
	for i := range api.MaxClients {
		clients = append(clients, clientAt(i%3, turns[i%len(turns):]...))
	}
	clients[8] = clientAt(0, fails(1, 0), fails(2, 0), fails(3, 0), fails(4, 0), fails(5, 0), fails(6, 0))
	clients[7] = clients[8]
	clients[6].Turns = append([]api.Turn{value(7, 30)}, clients[6].Turns...)
	return layers, clients
}

func TestBusyInputsAreBusy(t *testing.T) {
	layers, clients := busyInputs()
	report, _, _ := Run(layers, clients)
	for what := api.EvBegan; what <= api.EvDropped; what++ {
		if len(timesOf(report.Events, what)) == 0 {
			t.Errorf("%s is not among the events:\n%s", eventName(what), eventTexts(report.Events))
		}
	}
	if last := report.Events[len(report.Events)-1]; last.At < 30 {
		t.Errorf("no task goes on behind the last outcome: %s", eventText(last))
	}
}

func TestAnswerDependsOnTheArgumentsAlone(t *testing.T) {
	layers, clients := busyInputs()
	want, _, _ := Run(layers, clients)
	defer runtime.GOMAXPROCS(runtime.GOMAXPROCS(0))
	for _, procs := range []int{1, 2, 8} {
		runtime.GOMAXPROCS(procs)
		var group sync.WaitGroup
		for range 20 {
			group.Go(func() {
				for range 10 {
					if got, e, at := Run(layers, clients); e != api.OK || at != 0 || !reflect.DeepEqual(got, want) {
						t.Errorf("P2: another answer: %d at %d: %v", e, at, got)
					}
				}
			})
		}
		group.Wait()
	}
}

// roomy lays the lists into greater ones, with something behind them that nobody may touch.
func roomy(layers []api.Layer, clients []api.Client) ([]api.Layer, []api.Client) {
	l := append(append([]api.Layer{}, layers...), layerOf(77, 1, 2, 3, 4, 5), layerOf(78))
	c := append(append([]api.Client{}, clients...), clientAt(-77, value(1, 1)), clientAt(-78))
	for i := range c {
		turns := append(append([]api.Turn{}, c[i].Turns...), api.Turn{Kind: -77, N: i, Takes: -1}, api.Turn{Kind: -78})
		c[i].Turns = turns[:len(turns)-2]
	}
	return l, c
}

func turnsWithRoom(clients []api.Client) [][]api.Turn {
	var all [][]api.Turn
	for _, c := range clients {
		all = append(all, append([]api.Turn{}, c.Turns[:len(c.Turns)+2]...))
	}
	return all
}

func TestArgumentsAreNotChanged(t *testing.T) {
	good, callers := busyInputs()
	bad := append(append([]api.Layer{}, good...), layerOf(9))
	for _, layers := range [][]api.Layer{good, bad} {
		l, c := roomy(layers, callers)
		l2, c2, turns := append([]api.Layer{}, l...), append([]api.Client{}, c...), turnsWithRoom(c)
		Check(l[:len(l)-2], c[:len(c)-2])
		Run(l[:len(l)-2], c[:len(c)-2])
		if !reflect.DeepEqual(l, l2) || !reflect.DeepEqual(c, c2) || !reflect.DeepEqual(turnsWithRoom(c), turns) {
			t.Errorf("P2: arguments were changed: %v, %v", l, c)
		}
	}
}

func TestArgumentsAreNotKept(t *testing.T) {
	layers, clients := busyInputs()
	got, _, _ := Run(layers, clients)
	want, _, _ := Run(layers, clients)
	clear(layers)
	for _, c := range clients {
		clear(c.Turns)
	}
	clear(clients)
	if !reflect.DeepEqual(got, want) {
		t.Error("P2: an answer changed with its arguments")
	}
}

// deepCopy of a report, so that a change of the report can be seen.
func deepCopy(r api.Report) api.Report {
	r.Events = append([]api.Event{}, r.Events...)
	r.Outcomes = append([]api.Outcome{}, r.Outcomes...)
	for i, o := range r.Outcomes {
		if o.Chain != nil {
			r.Outcomes[i].Chain = append([]api.Link{}, o.Chain...)
		}
	}
	return r
}

func TestListsOfAnAnswerShareNoMemory(t *testing.T) {
	layers, clients := busyInputs()
	first, _, _ := Run(layers, clients)
	second, _, _ := Run(layers, clients)
	want := deepCopy(first)
	chains := 0
	for i := range first.Outcomes {
		chain := first.Outcomes[i].Chain
		whole := chain[:cap(chain)]
		for j := range whole {
			whole[j] = api.Link{Kind: -1, Layer: -i, N: j}
		}
		if len(chain) > 1 {
			chains++
		}
		copy(chain, want.Outcomes[i].Chain)
		if !reflect.DeepEqual(first, want) || !reflect.DeepEqual(second, want) {
			t.Fatalf("P2: the chain of outcome %d shares memory", i)
		}
	}
	if chains < 2 {
		t.Errorf("only %d chains of several links were looked at", chains)
	}
	behind := first.Events[len(first.Events):cap(first.Events)]
	for i := range behind {
		behind[i] = api.Event{At: -1}
	}
	clear(first.Outcomes[len(first.Outcomes):cap(first.Outcomes)])
	if !reflect.DeepEqual(first, want) || !reflect.DeepEqual(second, want) {
		t.Error("P2: the room behind a list shares memory")
	}
	clear(first.Events)
	clear(first.Outcomes)
	if third, _, _ := Run(layers, clients); !reflect.DeepEqual(second, want) || !reflect.DeepEqual(third, want) {
		t.Error("P2: two answers share memory")
	}
}

func TestAllThatWasStartedHasEnded(t *testing.T) {
	layers, clients := busyInputs()
	before := runtime.NumGoroutine()
	for range 100 {
		Run(layers, clients)
	}
	for range 200 {
		if runtime.NumGoroutine() <= before {
			return
		}
		time.Sleep(time.Millisecond)
	}
	t.Errorf("P2: goroutines: %d before, %d behind", before, runtime.NumGoroutine())
}

// later moves all starts of clients.
func later(clients []api.Client, by int) []api.Client {
	moved := append([]api.Client{}, clients...)
	for i := range moved {
		moved[i].Start += by
	}
	return moved
}

// earlier moves all times of a report back.
func earlier(r api.Report, by int) api.Report {
	r = deepCopy(r)
	for i := range r.Outcomes {
		r.Outcomes[i].At -= by
	}
	for i := range r.Events {
		r.Events[i].At -= by
	}
	return r
}

func TestLaterStartsMoveEverything(t *testing.T) {
	r := rand.New(rand.NewSource(5))
	for range 1000 {
		layers, clients, by := someLayers(r), someClients(r), oneOf(r, 1, 2, 7, 100, 980)
		want, _, _ := Run(layers, clients)
		got, e, at := Run(layers, later(clients, by))
		if e != api.OK || at != 0 || !sameReport(earlier(got, by), want) {
			t.Fatalf("P13: %v, %v: later by %d: error %d at %d\n%s\nwant all later than\n%s", layers, clients, by, e, at, eventTexts(got.Events), eventTexts(want.Events))
		}
	}
}

// TestNoPanicComesOutThroughAGuard: not to the client, and not to a Guard further out, so that only the innermost one has something to catch.
func TestNoPanicComesOutThroughAGuard(t *testing.T) {
	r := rand.New(rand.NewSource(6))
	caught, caughtOfAnotherTask, blown := 0, 0, 0
	for range 4000 {
		layers, clients := someLayers(r), someClients(r)
		report, _, _ := Run(layers, clients)
		innermost := innermostGuard(layers)
		for i, o := range report.Outcomes {
			if o.Kind == api.ByPanic && innermost >= 0 {
				t.Fatalf("P13: %v, %v: client %d: %v", layers, clients, i, o)
			}
			if o.Kind == api.ByPanic {
				blown++
			}
		}
		for _, e := range report.Events {
			if e.What != api.EvCaught {
				continue
			}
			if e.Layer != innermost {
				t.Fatalf("P13: %v, %v: %s", layers, clients, eventText(e))
			}
			caught++
			if hasKind(layers[innermost:], api.Limit) {
				caughtOfAnotherTask++
			}
		}
	}
	if caught < 500 || caughtOfAnotherTask < 50 || blown < 500 {
		t.Errorf("only %d panics were caught, %d of them from within a Limit, and %d were not", caught, caughtOfAnotherTask, blown)
	}
}

// innermostGuard: its number, or -1.
func innermostGuard(layers []api.Layer) int {
	innermost := -1
	for number, l := range layers {
		if l.Kind == api.Guard {
			innermost = number
		}
	}
	return innermost
}

func hasKind(layers []api.Layer, kind int) bool {
	return slices.ContainsFunc(layers, func(l api.Layer) bool { return l.Kind == kind })
}
