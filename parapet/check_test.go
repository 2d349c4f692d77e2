package parapet

import (
	"testing"

	"parapet/api"
)

// expectCheck: what Check answers, and Run with it.
func expectCheck(t *testing.T, layers []api.Layer, clients []api.Client, want api.Errno, place int) {
	t.Helper()
	if e, at := Check(layers, clients); e != want || at != place {
		t.Errorf("P3: %v, %v: Check %d, %d, want %d, %d", layers, clients, e, at, want, place)
	}
	r, e, at := Run(layers, clients)
	if e != want || at != place {
		t.Errorf("P4: %v, %v: Run %d, %d, want %d, %d", layers, clients, e, at, want, place)
	}
	if e != api.OK && (r.Outcomes != nil || r.Events != nil) {
		t.Errorf("P1: a report beside the error %d: %v", e, r)
	}
	if e == api.OK && len(r.Outcomes) != len(clients) {
		t.Errorf("P4: %d outcomes of %d clients", len(r.Outcomes), len(clients))
	}
}

// bound of one number of a layer that is good else.
type bound struct {
	layer       api.Layer
	number      int
	least, most int
}

func bounds() []bound {
	again := layerOf(api.Retry, 2, 3, 4, 5)
	rate := layerOf(api.Rate, 2, 3)
	breaker := layerOf(api.Breaker, 7, 3, 50, 5, 2)
	room := layerOf(api.Room, 2, 3)
	return []bound{
		{again, 0, 1, 9}, {again, 1, 0, 1000}, {again, 2, 1, 9}, {again, 3, 0, 10000},
		{rate, 0, 1, 1000}, {rate, 1, 1, 20},
		{breaker, 0, 3, 20}, {breaker, 1, 1, 7}, {breaker, 2, 1, 100}, {breaker, 3, 0, 1000}, {breaker, 4, 1, 9},
		{layerOf(api.Breaker, 20, 20, 1, 0, 1), 1, 1, 20}, {layerOf(api.Breaker, 1, 1, 1, 0, 1), 0, 1, 20},
		{room, 0, 1, 9}, {room, 1, 0, 1000},
		{layerOf(api.Limit, 2), 0, 1, 1000},
	}
}

func withNumber(l api.Layer, number, n int) api.Layer {
	*[]*int{&l.A, &l.B, &l.C, &l.D, &l.E}[number] = n
	return l
}

func TestBoundsOfLayers(t *testing.T) {
	for _, b := range bounds() {
		for _, n := range []int{b.least, b.most} {
			expectCheck(t, stack(withNumber(b.layer, b.number, n)), nil, api.OK, 0)
		}
		for _, n := range []int{b.least - 1, b.most + 1, leastInt, mostInt} {
			bad := withNumber(b.layer, b.number, n)
			expectCheck(t, stack(bad), nil, api.ErrLayer, 0)
			expectCheck(t, stack(layerOf(api.Guard), b.layer, bad, bad), nil, api.ErrLayer, 2)
		}
	}
}

func TestNumbersThatAKindDoesNotNameMayBeAnything(t *testing.T) {
	named := map[int]int{api.Retry: 4, api.Guard: 0, api.Rate: 2, api.Breaker: 5, api.Room: 2, api.Limit: 1}
	for kind, count := range named {
		for _, n := range []int{leastInt, -1, 0, mostInt} {
			l := layerOf(kind, 1, 1, 1, 1, 1)
			for number := count; number < 5; number++ {
				l = withNumber(l, number, n)
			}
			expectCheck(t, stack(l), []api.Client{clientAt(0)}, api.OK, 0)
		}
	}
}

func TestKindsOfLayers(t *testing.T) {
	for _, kind := range []int{leastInt, -1, 0, 7, 8, mostInt} {
		expectCheck(t, stack(layerOf(kind, 1, 1, 1, 1, 1)), nil, api.ErrLayer, 0)
	}
}

func TestNumberOfLayers(t *testing.T) {
	layers := make([]api.Layer, 7)
	for i := range layers {
		layers[i] = layerOf(api.Guard)
	}
	expectCheck(t, layers[:6], nil, api.OK, 0)
	expectCheck(t, layers, nil, api.ErrLayers, 0)
}

func TestNumberOfRetries(t *testing.T) {
	again, guard := layerOf(api.Retry, 1, 0, 1, 0), layerOf(api.Guard)
	expectCheck(t, stack(again, again, guard), nil, api.OK, 0)
	expectCheck(t, stack(again, again, again), nil, api.ErrLayer, 2)
	expectCheck(t, stack(guard, again, guard, again, guard, again), nil, api.ErrLayer, 5)
	expectCheck(t, stack(again, again, layerOf(7), again), nil, api.ErrLayer, 2)
	expectCheck(t, stack(again, again, again, layerOf(7)), nil, api.ErrLayer, 2)
}

func TestNumberOfClients(t *testing.T) {
	expectCheck(t, nil, nil, api.OK, 0)
	expectCheck(t, []api.Layer{}, []api.Client{}, api.OK, 0)
	expectCheck(t, nil, make([]api.Client, 9), api.OK, 0)
	expectCheck(t, nil, make([]api.Client, 10), api.ErrClients, 0)
}

func TestBoundsOfClients(t *testing.T) {
	many := make([]api.Turn, 13)
	for i := range many {
		many[i] = value(0, 0)
	}
	good := []api.Client{
		clientAt(0), clientAt(1000), clientAt(0, many[:12]...),
		clientAt(0, value(leastInt, 0), fails(mostInt, 1000), final(-1, 1), blows(leastInt, 1000)),
	}
	expectCheck(t, nil, good, api.OK, 0)
	bad := []api.Client{
		clientAt(-1), clientAt(1001), clientAt(leastInt), clientAt(mostInt), clientAt(0, many...),
		clientAt(0, api.Turn{Kind: 0}), clientAt(0, api.Turn{Kind: 5}), clientAt(0, api.Turn{Kind: -1}), clientAt(0, api.Turn{Kind: mostInt}),
		clientAt(0, value(0, -1)), clientAt(0, fails(0, 1001)), clientAt(0, final(0, leastInt)), clientAt(0, blows(0, mostInt)),
		clientAt(0, value(0, 0), fails(0, 0), value(0, 1001)),
	}
	for _, c := range bad {
		expectCheck(t, nil, []api.Client{c}, api.ErrClient, 0)
		expectCheck(t, nil, append(good[:3:3], c, c), api.ErrClient, 3)
	}
}

func TestWhichErrorComesFirst(t *testing.T) {
	guard, none := layerOf(api.Guard), layerOf(0)
	wrong := make([]api.Client, 10)
	wrong[1].Start = -1
	expectCheck(t, stack(guard, none, guard, guard, guard, guard, guard), wrong, api.ErrLayers, 0)
	expectCheck(t, stack(guard, none, none), wrong, api.ErrLayer, 1)
	expectCheck(t, stack(guard, guard), wrong, api.ErrClients, 0)
	expectCheck(t, stack(guard, guard), wrong[:9], api.ErrClient, 1)
	expectCheck(t, stack(guard, none), wrong[:9], api.ErrLayer, 1)
	expectCheck(t, stack(guard, guard), wrong[2:], api.OK, 0)
}
