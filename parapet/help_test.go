package parapet

import (
	"fmt"
	"strings"
	"testing"

	"parapet/api"
)

const (
	leastInt = -1 << 63
	mostInt  = 1<<63 - 1
)

func layerOf(kind int, numbers ...int) api.Layer {
	var n [5]int
	copy(n[:], numbers)
	return api.Layer{Kind: kind, A: n[0], B: n[1], C: n[2], D: n[3], E: n[4]}
}

func stack(layers ...api.Layer) []api.Layer { return layers }

func clientAt(start int, turns ...api.Turn) api.Client {
	return api.Client{Start: start, Turns: turns}
}

func value(n, takes int) api.Turn { return api.Turn{Kind: api.TurnValue, N: n, Takes: takes} }
func fails(n, takes int) api.Turn { return api.Turn{Kind: api.TurnError, N: n, Takes: takes} }
func final(n, takes int) api.Turn { return api.Turn{Kind: api.TurnFinal, N: n, Takes: takes} }
func blows(n, takes int) api.Turn { return api.Turn{Kind: api.TurnPanic, N: n, Takes: takes} }

// eventText: time, client, layer, what and number, as in "3 c1 l0 Paused 5".
func eventText(e api.Event) string {
	return fmt.Sprintf("%d c%d l%d %s %d", e.At, e.Client, e.Layer, eventName(e.What), e.N)
}

func eventName(what int) string {
	names := []string{"none", "Began", "Ended", "Paused", "GaveUp", "Caught", "Admitted", "Refused", "Passed", "Opened", "Halved", "Closed", "Waited", "Took", "Left", "Cut", "Dropped"}
	if what < 0 || what >= len(names) {
		return fmt.Sprint("event ", what)
	}
	return names[what]
}

func eventTexts(events []api.Event) string {
	var lines []string
	for _, e := range events {
		lines = append(lines, eventText(e))
	}
	return strings.Join(lines, "\n")
}

func outcomeTexts(outcomes []api.Outcome) string {
	var lines []string
	for _, o := range outcomes {
		lines = append(lines, fmt.Sprint(o))
	}
	return strings.Join(lines, "\n")
}

// expectRun: outcomes as fmt prints them, and events as eventText tells them.
func expectRun(t *testing.T, layers []api.Layer, clients []api.Client, outcomes []string, events ...string) {
	t.Helper()
	r, e, at := Run(layers, clients)
	if e != api.OK || at != 0 {
		t.Errorf("error %d at %d", e, at)
	}
	if got, want := outcomeTexts(r.Outcomes), strings.Join(outcomes, "\n"); got != want {
		t.Errorf("outcomes:\n%s\nwant:\n%s", got, want)
	}
	if got, want := eventTexts(r.Events), strings.Join(events, "\n"); got != want {
		t.Errorf("events:\n%s\nwant:\n%s", got, want)
	}
}

func eventsOf(events []api.Event, layer int) []api.Event {
	var own []api.Event
	for _, e := range events {
		if e.Layer == layer {
			own = append(own, e)
		}
	}
	return own
}

func timesOf(events []api.Event, what int) []int {
	var times []int
	for _, e := range events {
		if e.What == what {
			times = append(times, e.At)
		}
	}
	return times
}

// ownEvents of a layer: time, client and what, as in "3 c1 Passed, 4 c1 Opened".
func ownEvents(events []api.Event, layer int) string {
	var own []string
	for _, e := range eventsOf(events, layer) {
		own = append(own, fmt.Sprintf("%d c%d %s", e.At, e.Client, eventName(e.What)))
	}
	return strings.Join(own, ", ")
}

// expectOwn: the events of one layer.
func expectOwn(t *testing.T, layers []api.Layer, clients []api.Client, layer int, want string) {
	t.Helper()
	r, e, at := Run(layers, clients)
	if e != api.OK || at != 0 {
		t.Errorf("error %d at %d", e, at)
	}
	if got := ownEvents(r.Events, layer); got != want {
		t.Errorf("%v, %v: layer %d:\n     %s\nwant %s", layers, clients, layer, got, want)
	}
}

// oneEach: a client for each turn, with the starts 0, 1, 2, ..
func oneEach(turns ...api.Turn) []api.Client {
	var clients []api.Client
	for start, turn := range turns {
		clients = append(clients, clientAt(start, turn))
	}
	return clients
}
