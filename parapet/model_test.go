package parapet

import (
	"math/rand"
	"reflect"
	"slices"
	"testing"

	"parapet/api"
)

// model plays the document's words in one goroutine, without tasks, errors or panics: who enters a layer hands in a function that is called with what comes back.
type model struct {
	layers  []api.Layer
	clients []api.Client
	had     []int
	now     int
	agenda  []due
	lives   []modelLife
	report  api.Report
}

type due struct {
	at   int
	goOn func()
}

// modelLife: what a layer remembers.
type modelLife struct {
	admitted []int // of a Rate: when it let somebody in
	periods  []modelPeriod
	inside   int            // of a Room: the places that are taken
	line     []*modelWaiter // of a Room
}

// modelWaiter is one of the line of a Room.
type modelWaiter struct {
	takes func()
}

// modelPeriod of a Breaker, the last one is the present one. What it counted is told as an outcome's kind.
type modelPeriod struct {
	name    string
	began   int
	probes  int
	counted []int
}

type comesBack func(api.Outcome)

func modelRun(layers []api.Layer, clients []api.Client) api.Report {
	m := &model{layers: layers, clients: clients, had: make([]int, len(clients)), lives: make([]modelLife, len(layers))}
	m.report.Outcomes = make([]api.Outcome, len(clients))
	for i := range m.lives {
		m.lives[i].periods = []modelPeriod{{name: "closed"}}
	}
	for i, c := range clients {
		m.at(c.Start, func() {
			m.enter(0, i, func(o api.Outcome) {
				o.At = m.now
				m.report.Outcomes[i] = o
			})
		})
	}
	for len(m.agenda) > 0 {
		least := 0
		for i, d := range m.agenda {
			if d.at < m.agenda[least].at {
				least = i
			}
		}
		d := m.agenda[least]
		m.agenda = append(m.agenda[:least:least], m.agenda[least+1:]...)
		m.now = d.at
		d.goOn()
	}
	return m.report
}

func (m *model) at(time int, goOn func()) { m.agenda = append(m.agenda, due{time, goOn}) }

func (m *model) wait(span int, goOn func()) {
	if span == 0 {
		goOn()
		return
	}
	m.at(m.now+span, goOn)
}

func (m *model) tell(client, layer, what, n int) {
	m.report.Events = append(m.report.Events, api.Event{At: m.now, Client: client, Layer: layer, What: what, N: n})
}

func anError(kind, layer, n int, behind ...api.Link) api.Outcome {
	return api.Outcome{Kind: api.ByError, Chain: append([]api.Link{{Kind: kind, Layer: layer, N: n}}, behind...)}
}

func lastLink(o api.Outcome) int {
	if o.Kind != api.ByError {
		return 0
	}
	return o.Chain[len(o.Chain)-1].Kind
}

func (m *model) enter(layer, client int, back comesBack) {
	if layer == len(m.layers) {
		m.backend(client, back)
		return
	}
	switch m.layers[layer].Kind {
	case api.Retry:
		m.retry(layer, client, 1, m.layers[layer].B, back)
	case api.Guard:
		m.guard(layer, client, back)
	case api.Rate:
		m.rate(layer, client, back)
	case api.Breaker:
		m.breaker(layer, client, back)
	case api.Room:
		m.room(layer, client, back)
	}
}

func (m *model) backend(client int, back comesBack) {
	turn, number := value(0, 0), m.had[client]
	if turns := m.clients[client].Turns; number < len(turns) {
		turn = turns[number]
	}
	m.had[client]++
	m.tell(client, -1, api.EvBegan, number)
	m.wait(turn.Takes, func() {
		m.tell(client, -1, api.EvEnded, number)
		switch turn.Kind {
		case api.TurnValue:
			back(api.Outcome{Kind: api.ByValue, N: turn.N})
		case api.TurnError:
			back(anError(api.LinkFailed, -1, turn.N))
		case api.TurnFinal:
			back(anError(api.LinkFatal, -1, turn.N))
		case api.TurnPanic:
			back(api.Outcome{Kind: api.ByPanic, N: turn.N})
		}
	})
}

func (m *model) retry(layer, client, attempt, grown int, back comesBack) {
	l := m.layers[layer]
	m.enter(layer+1, client, func(o api.Outcome) {
		if o.Kind != api.ByError || lastLink(o) == api.LinkFatal {
			back(o)
			return
		}
		if attempt == l.A {
			m.tell(client, layer, api.EvGaveUp, 0)
			back(anError(api.LinkGaveUp, layer, 0, o.Chain...))
			return
		}
		m.tell(client, layer, api.EvPaused, min(grown, l.D))
		m.wait(min(grown, l.D), func() { m.retry(layer, client, attempt+1, grown*l.C, back) })
	})
}

func (m *model) guard(layer, client int, back comesBack) {
	m.enter(layer+1, client, func(o api.Outcome) {
		if o.Kind == api.ByPanic {
			m.tell(client, layer, api.EvCaught, o.N)
			o = anError(api.LinkCaught, layer, o.N)
		}
		back(o)
	})
}

func (m *model) refuse(layer, client int, back comesBack) {
	m.tell(client, layer, api.EvRefused, 0)
	back(anError(api.LinkRefused, layer, 0))
}

func (m *model) rate(layer, client int, back comesBack) {
	l, life := m.layers[layer], &m.lives[layer]
	next := -1 << 40
	for _, at := range life.admitted {
		next = max(next, at) + l.A
	}
	if next > m.now+(l.B-1)*l.A {
		m.refuse(layer, client, back)
		return
	}
	life.admitted = append(life.admitted, m.now)
	m.tell(client, layer, api.EvAdmitted, 0)
	m.enter(layer+1, client, back)
}

// become begins a period of a Breaker.
func (m *model) become(layer, client int, name string, what int) {
	m.lives[layer].periods = append(m.lives[layer].periods, modelPeriod{name: name, began: m.now})
	m.tell(client, layer, what, 0)
}

func (m *model) breaker(layer, client int, back comesBack) {
	l, life := m.layers[layer], &m.lives[layer]
	present := func() *modelPeriod { return &life.periods[len(life.periods)-1] }
	if p := present(); p.name == "open" {
		if m.now < p.began+l.D {
			m.refuse(layer, client, back)
			return
		}
		m.become(layer, client, "half", api.EvHalved)
	}
	if p := present(); p.name == "half" {
		if p.probes == l.E {
			m.refuse(layer, client, back)
			return
		}
		p.probes++
	}
	m.tell(client, layer, api.EvPassed, 0)
	period := len(life.periods)
	m.enter(layer+1, client, func(o api.Outcome) {
		if len(life.periods) == period {
			m.breakerCounts(layer, client, present(), o)
		}
		back(o)
	})
}

func (m *model) breakerCounts(layer, client int, p *modelPeriod, o api.Outcome) {
	l := m.layers[layer]
	if last := lastLink(o); last == api.LinkRefused || last == api.LinkCancelled {
		p.probes--
		return
	}
	p.counted = append(p.counted, o.Kind)
	total, failures := 0, 0
	for i := len(p.counted) - 1; i >= 0 && (p.name == "half" || total < l.A); i-- {
		total++
		if p.counted[i] != api.ByValue {
			failures++
		}
	}
	bad := failures*100 >= l.C*total
	switch {
	case p.name == "closed" && total >= l.B && bad, p.name == "half" && total == l.E && bad:
		m.become(layer, client, "open", api.EvOpened)
	case p.name == "half" && total == l.E:
		m.become(layer, client, "closed", api.EvClosed)
	}
}

func (m *model) room(layer, client int, back comesBack) {
	l, life := m.layers[layer], &m.lives[layer]
	if life.inside < l.A {
		life.inside++
		m.inRoom(layer, client, back)
		return
	}
	if l.B == 0 {
		m.refuse(layer, client, back)
		return
	}
	m.tell(client, layer, api.EvWaited, 0)
	w := &modelWaiter{func() { m.inRoom(layer, client, back) }}
	life.line = append(life.line, w)
	m.at(m.now+l.B, func() {
		if i := slices.Index(life.line, w); i >= 0 {
			life.line = slices.Delete(life.line, i, i+1)
			m.refuse(layer, client, back)
		}
	})
}

func (m *model) inRoom(layer, client int, back comesBack) {
	life := &m.lives[layer]
	m.tell(client, layer, api.EvTook, 0)
	m.enter(layer+1, client, func(o api.Outcome) {
		m.tell(client, layer, api.EvLeft, 0)
		if len(life.line) == 0 {
			life.inside--
		} else {
			m.at(m.now, life.line[0].takes)
			life.line = slices.Delete(life.line, 0, 1)
		}
		back(o)
	})
}

func oneOf(r *rand.Rand, numbers ...int) int { return numbers[r.Intn(len(numbers))] }

func someLayer(r *rand.Rand, kind int) api.Layer {
	switch kind {
	case api.Retry:
		return layerOf(kind, 1+r.Intn(4), r.Intn(4), 1+r.Intn(3), r.Intn(12))
	case api.Rate:
		return layerOf(kind, 1+r.Intn(5), 1+r.Intn(4))
	case api.Breaker:
		window := 1 + r.Intn(5)
		return layerOf(kind, window, 1+r.Intn(window), oneOf(r, 1, 25, 33, 34, 50, 51, 66, 67, 100), r.Intn(6), 1+r.Intn(3))
	case api.Room:
		return layerOf(kind, 1+r.Intn(4), r.Intn(6))
	}
	return layerOf(kind)
}

func someLayers(r *rand.Rand) []api.Layer {
	var layers []api.Layer
	retries := 0
	for range r.Intn(api.MaxLayers + 1) {
		kind := oneOf(r, api.Retry, api.Retry, api.Guard, api.Rate, api.Breaker, api.Breaker, api.Room, api.Room)
		if kind == api.Retry {
			retries++
		}
		if retries > api.MaxRetries {
			kind = api.Guard
		}
		layers = append(layers, someLayer(r, kind))
	}
	return layers
}

func someClients(r *rand.Rand) []api.Client {
	var clients []api.Client
	for range r.Intn(api.MaxClients + 1) {
		c := clientAt(r.Intn(12))
		for range r.Intn(api.MaxTurns + 1) {
			kind := oneOf(r, api.TurnValue, api.TurnError, api.TurnError, api.TurnError, api.TurnError, api.TurnFinal, api.TurnPanic)
			c.Turns = append(c.Turns, api.Turn{Kind: kind, N: r.Intn(9) - 4, Takes: r.Intn(4)})
		}
		clients = append(clients, c)
	}
	return clients
}

// lookAtLayers runs random inputs, and looks at each layer of one kind and the events it told.
func lookAtLayers(seed int64, kind int, look func(l api.Layer, own []api.Event)) {
	r := rand.New(rand.NewSource(seed))
	for range 2000 {
		layers, clients := someLayers(r), someClients(r)
		report, _, _ := Run(layers, clients)
		for number, l := range layers {
			if l.Kind == kind {
				look(l, eventsOf(report.Events, number))
			}
		}
	}
}

func sameReport(a, b api.Report) bool {
	return outcomeTexts(a.Outcomes) == outcomeTexts(b.Outcomes) && len(a.Outcomes) == len(b.Outcomes) && len(a.Events) == len(b.Events) && (len(a.Events) == 0 || reflect.DeepEqual(a.Events, b.Events))
}

func TestRunIsAsTheModelSays(t *testing.T) {
	r := rand.New(rand.NewSource(1))
	seen := map[int]int{}
	for range 10000 {
		layers, clients := someLayers(r), someClients(r)
		got, e, at := Run(layers, clients)
		if want := modelRun(layers, clients); e != api.OK || at != 0 || !sameReport(got, want) {
			t.Fatalf("P4 to P11: %v\n%v\nerror %d at %d\n%s\n%s\nwant\n%s\n%s", layers, clients, e, at, outcomeTexts(got.Outcomes), eventTexts(got.Events), outcomeTexts(want.Outcomes), eventTexts(want.Events))
		}
		for _, event := range got.Events {
			seen[event.What]++
		}
	}
	for what := api.EvBegan; what <= api.EvLeft; what++ {
		if seen[what] < 500 {
			t.Errorf("the inputs led to event %d only %d times", what, seen[what])
		}
	}
}
