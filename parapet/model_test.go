package parapet

import (
	"math/rand"
	"reflect"
	"testing"

	"parapet/api"
)

// model plays the document's words in one goroutine, without errors or panics: who enters a layer hands in a function that is called with what comes back.
type model struct {
	layers  []api.Layer
	clients []api.Client
	had     []int
	now     int
	agenda  []due
	tasks   []*modelTask // by their numbers
	lives   []modelLife
	report  api.Report
}

type due struct {
	at   int
	goOn func()
}

// modelTask knows the task in which it began, and what of its waits can be cancelled.
type modelTask struct {
	client           int
	beganIn          *modelTask
	wait             *modelWait
	cancelled, ended bool
}

// modelWait has no cause, as long as it goes on.
type modelWait struct {
	cause string
	goOn  func(cause string)
}

// modelLife: what a layer remembers.
type modelLife struct {
	admitted []int // of a Rate: when it let somebody in
	periods  []modelPeriod
	inside   int          // of a Room: the places that are taken
	waits    []*modelWait // of a Room: all that ever began
}

// modelPeriod of a Breaker, the last one is the present one. What it counted is told as an outcome's kind.
type modelPeriod struct {
	name    string
	began   int
	probes  int
	counted []int
}

type comesBack func(api.Outcome)

func modelRun(layers []api.Layer, clients []api.Client) api.Report {
	m := &model{layers: layers, clients: clients, had: make([]int, len(clients)), lives: make([]modelLife, len(layers))}
	m.report.Outcomes = make([]api.Outcome, len(clients))
	for i := range m.lives {
		m.lives[i].periods = []modelPeriod{{name: "closed"}}
	}
	for i, c := range clients {
		t := m.newTask(i, nil)
		m.at(c.Start, func() {
			m.enter(0, t, func(o api.Outcome) {
				o.At = m.now
				m.report.Outcomes[i] = o
			})
		})
	}
	for len(m.agenda) > 0 {
		m.takeOneOff()
	}
	return m.report
}

func (m *model) takeOneOff() {
	least := 0
	for i, d := range m.agenda {
		if d.at < m.agenda[least].at {
			least = i
		}
	}
	d := m.agenda[least]
	m.agenda = append(m.agenda[:least:least], m.agenda[least+1:]...)
	m.now = d.at
	d.goOn()
}

func (m *model) at(time int, goOn func()) { m.agenda = append(m.agenda, due{time, goOn}) }

func (m *model) newTask(client int, beganIn *modelTask) *modelTask {
	t := &modelTask{client: client, beganIn: beganIn}
	m.tasks = append(m.tasks, t)
	return t
}

// waits lets a task wait, so that it can be cancelled.
func (m *model) waits(t *modelTask, span int, goOn func(cause string)) *modelWait {
	w := &modelWait{goOn: goOn}
	t.wait = w
	m.at(m.now+span, func() {
		if w.cause == "" {
			w.cause = "over"
			w.goOn("over")
		}
	})
	return w
}

func (m *model) fix(w *modelWait, cause string) {
	if w.cause == "" {
		w.cause = cause
		m.at(m.now, func() { w.goOn(cause) })
	}
}

// cancel: each task that has top among those it goes back to.
func (m *model) cancel(top *modelTask) {
	var reached []*modelTask
	for _, t := range m.tasks {
		for back := t; back != nil; back = back.beganIn {
			if back == top && !t.ended {
				t.cancelled = true
				reached = append(reached, t)
			}
		}
	}
	for _, t := range reached {
		if t.wait != nil {
			m.fix(t.wait, "cancelled")
		}
	}
}

func (m *model) tell(t *modelTask, layer, what, n int) {
	m.report.Events = append(m.report.Events, api.Event{At: m.now, Client: t.client, Layer: layer, What: what, N: n})
}

func anError(kind, layer, n int, behind ...api.Link) api.Outcome {
	return api.Outcome{Kind: api.ByError, Chain: append([]api.Link{{Kind: kind, Layer: layer, N: n}}, behind...)}
}

func lastLink(o api.Outcome) int {
	if o.Kind != api.ByError {
		return 0
	}
	return o.Chain[len(o.Chain)-1].Kind
}

func (m *model) enter(layer int, t *modelTask, back comesBack) {
	if layer == len(m.layers) {
		m.backend(t, back)
		return
	}
	switch m.layers[layer].Kind {
	case api.Retry:
		m.retry(layer, t, 1, m.layers[layer].B, back)
	case api.Guard:
		m.guard(layer, t, back)
	case api.Rate:
		m.rate(layer, t, back)
	case api.Breaker:
		m.breaker(layer, t, back)
	case api.Room:
		m.room(layer, t, back)
	case api.Limit:
		m.limit(layer, t, back)
	}
}

func (m *model) backend(t *modelTask, back comesBack) {
	turn, number := value(0, 0), m.had[t.client]
	if turns := m.clients[t.client].Turns; number < len(turns) {
		turn = turns[number]
	}
	m.had[t.client]++
	m.tell(t, -1, api.EvBegan, number)
	ends := func() {
		m.tell(t, -1, api.EvEnded, number)
		switch turn.Kind {
		case api.TurnValue:
			back(api.Outcome{Kind: api.ByValue, N: turn.N})
		case api.TurnError:
			back(anError(api.LinkFailed, -1, turn.N))
		case api.TurnFinal:
			back(anError(api.LinkFatal, -1, turn.N))
		case api.TurnPanic:
			back(api.Outcome{Kind: api.ByPanic, N: turn.N})
		}
	}
	if turn.Takes == 0 {
		ends()
		return
	}
	m.at(m.now+turn.Takes, ends)
}

func (m *model) retry(layer int, t *modelTask, attempt, grown int, back comesBack) {
	l := m.layers[layer]
	next := func(cause string) {
		if cause == "cancelled" {
			m.drop(layer, t, back)
			return
		}
		m.retry(layer, t, attempt+1, grown*l.C, back)
	}
	m.enter(layer+1, t, func(o api.Outcome) {
		last, pause := lastLink(o), min(grown, l.D)
		switch {
		case o.Kind != api.ByError || last == api.LinkFatal || last == api.LinkCancelled:
			back(o)
			return
		case attempt == l.A:
			m.tell(t, layer, api.EvGaveUp, 0)
			back(anError(api.LinkGaveUp, layer, 0, o.Chain...))
			return
		}
		m.tell(t, layer, api.EvPaused, pause)
		switch {
		case t.cancelled:
			next("cancelled")
		case pause == 0:
			next("over")
		default:
			m.waits(t, pause, next)
		}
	})
}

func (m *model) guard(layer int, t *modelTask, back comesBack) {
	m.enter(layer+1, t, func(o api.Outcome) {
		if o.Kind == api.ByPanic {
			m.tell(t, layer, api.EvCaught, o.N)
			o = anError(api.LinkCaught, layer, o.N)
		}
		back(o)
	})
}

func (m *model) refuse(layer int, t *modelTask, back comesBack) {
	m.tell(t, layer, api.EvRefused, 0)
	back(anError(api.LinkRefused, layer, 0))
}

func (m *model) drop(layer int, t *modelTask, back comesBack) {
	m.tell(t, layer, api.EvDropped, 0)
	back(anError(api.LinkCancelled, layer, 0))
}

func (m *model) rate(layer int, t *modelTask, back comesBack) {
	l, life := m.layers[layer], &m.lives[layer]
	next := -1 << 40
	for _, at := range life.admitted {
		next = max(next, at) + l.A
	}
	if next > m.now+(l.B-1)*l.A {
		m.refuse(layer, t, back)
		return
	}
	life.admitted = append(life.admitted, m.now)
	m.tell(t, layer, api.EvAdmitted, 0)
	m.enter(layer+1, t, back)
}

// become begins a period of a Breaker.
func (m *model) become(layer int, t *modelTask, name string, what int) {
	m.lives[layer].periods = append(m.lives[layer].periods, modelPeriod{name: name, began: m.now})
	m.tell(t, layer, what, 0)
}

func (m *model) breaker(layer int, t *modelTask, back comesBack) {
	l, life := m.layers[layer], &m.lives[layer]
	present := func() *modelPeriod { return &life.periods[len(life.periods)-1] }
	if p := present(); p.name == "open" {
		if m.now < p.began+l.D {
			m.refuse(layer, t, back)
			return
		}
		m.become(layer, t, "half", api.EvHalved)
	}
	if p := present(); p.name == "half" {
		if p.probes == l.E {
			m.refuse(layer, t, back)
			return
		}
		p.probes++
	}
	m.tell(t, layer, api.EvPassed, 0)
	period := len(life.periods)
	m.enter(layer+1, t, func(o api.Outcome) {
		if len(life.periods) == period {
			m.breakerCounts(layer, t, present(), o)
		}
		back(o)
	})
}

func (m *model) breakerCounts(layer int, t *modelTask, p *modelPeriod, o api.Outcome) {
	l := m.layers[layer]
	if last := lastLink(o); last == api.LinkRefused || last == api.LinkCancelled {
		p.probes--
		return
	}
	p.counted = append(p.counted, o.Kind)
	total, failures := 0, 0
	for i := len(p.counted) - 1; i >= 0 && (p.name == "half" || total < l.A); i-- {
		total++
		if p.counted[i] != api.ByValue {
			failures++
		}
	}
	bad := failures*100 >= l.C*total
	switch {
	case p.name == "closed" && total >= l.B && bad, p.name == "half" && total == l.E && bad:
		m.become(layer, t, "open", api.EvOpened)
	case p.name == "half" && total == l.E:
		m.become(layer, t, "closed", api.EvClosed)
	}
}

func (m *model) room(layer int, t *modelTask, back comesBack) {
	l, life := m.layers[layer], &m.lives[layer]
	if life.inside < l.A {
		life.inside++
		m.inRoom(layer, t, back)
		return
	}
	if l.B == 0 {
		m.refuse(layer, t, back)
		return
	}
	m.tell(t, layer, api.EvWaited, 0)
	if t.cancelled {
		m.drop(layer, t, back)
		return
	}
	life.waits = append(life.waits, m.waits(t, l.B, func(cause string) {
		switch cause {
		case "came":
			m.inRoom(layer, t, back)
		case "over":
			m.refuse(layer, t, back)
		case "cancelled":
			m.drop(layer, t, back)
		}
	}))
}

func (m *model) inRoom(layer int, t *modelTask, back comesBack) {
	m.tell(t, layer, api.EvTook, 0)
	m.enter(layer+1, t, func(o api.Outcome) {
		m.tell(t, layer, api.EvLeft, 0)
		m.placeIsFree(&m.lives[layer])
		back(o)
	})
}

func (m *model) placeIsFree(life *modelLife) {
	for _, w := range life.waits {
		if w.cause == "" {
			m.fix(w, "came")
			return
		}
	}
	life.inside--
}

func (m *model) limit(layer int, t *modelTask, back comesBack) {
	if t.cancelled {
		m.drop(layer, t, back)
		return
	}
	var inner *modelTask
	var came api.Outcome
	wait := m.waits(t, m.layers[layer].A, func(cause string) {
		switch cause {
		case "came":
			back(came)
		case "over":
			m.tell(t, layer, api.EvCut, 0)
			m.cancel(inner)
			back(anError(api.LinkLate, layer, 0))
		case "cancelled":
			m.drop(layer, t, back)
		}
	})
	inner = m.newTask(t.client, t)
	m.at(m.now, func() {
		m.enter(layer+1, inner, func(o api.Outcome) {
			inner.ended = true
			came = o
			m.fix(wait, "came")
		})
	})
}

func oneOf(r *rand.Rand, numbers ...int) int { return numbers[r.Intn(len(numbers))] }

func someLayer(r *rand.Rand, kind int) api.Layer {
	switch kind {
	case api.Retry:
		return layerOf(kind, 1+r.Intn(4), r.Intn(4), 1+r.Intn(3), r.Intn(12))
	case api.Rate:
		return layerOf(kind, 1+r.Intn(5), 1+r.Intn(4))
	case api.Breaker:
		window := 1 + r.Intn(5)
		return layerOf(kind, window, 1+r.Intn(window), oneOf(r, 1, 25, 33, 34, 50, 51, 66, 67, 100), r.Intn(6), 1+r.Intn(3))
	case api.Room:
		return layerOf(kind, 1+r.Intn(4), r.Intn(6))
	case api.Limit:
		return layerOf(kind, 1+r.Intn(7))
	}
	return layerOf(kind)
}

// someLayers are now of all kinds, now only of those in which a task waits, so that more of that happens.
func someLayers(r *rand.Rand) []api.Layer {
	var layers []api.Layer
	kinds := []int{api.Retry, api.Retry, api.Guard, api.Rate, api.Breaker, api.Breaker, api.Room, api.Room, api.Limit, api.Limit}
	if r.Intn(3) == 0 {
		kinds = []int{api.Retry, api.Room, api.Limit}
	}
	retries := 0
	for range r.Intn(api.MaxLayers + 1) {
		kind := oneOf(r, kinds...)
		if kind == api.Retry {
			retries++
		}
		if retries > api.MaxRetries {
			kind = api.Guard
		}
		layers = append(layers, someLayer(r, kind))
	}
	return layers
}

func someClients(r *rand.Rand) []api.Client {
	var clients []api.Client
	for range r.Intn(api.MaxClients + 1) {
		c := clientAt(r.Intn(12))
		for range r.Intn(api.MaxTurns + 1) {
			kind := oneOf(r, api.TurnValue, api.TurnError, api.TurnError, api.TurnError, api.TurnError, api.TurnFinal, api.TurnPanic)
			c.Turns = append(c.Turns, api.Turn{Kind: kind, N: r.Intn(9) - 4, Takes: r.Intn(oneOf(r, 1, 4, 9))})
		}
		clients = append(clients, c)
	}
	return clients
}

// lookAtLayers runs random inputs, and looks at each layer of one kind and the events it told.
func lookAtLayers(seed int64, kind int, look func(l api.Layer, own []api.Event)) {
	r := rand.New(rand.NewSource(seed))
	for range 4000 {
		layers, clients := someLayers(r), someClients(r)
		report, _, _ := Run(layers, clients)
		for number, l := range layers {
			if l.Kind == kind {
				look(l, eventsOf(report.Events, number))
			}
		}
	}
}

func sameReport(a, b api.Report) bool {
	return outcomeTexts(a.Outcomes) == outcomeTexts(b.Outcomes) && len(a.Outcomes) == len(b.Outcomes) && len(a.Events) == len(b.Events) && (len(a.Events) == 0 || reflect.DeepEqual(a.Events, b.Events))
}

func TestRunIsAsTheModelSays(t *testing.T) {
	r := rand.New(rand.NewSource(1))
	seen := map[int]int{}
	for range 20000 {
		layers, clients := someLayers(r), someClients(r)
		got, e, at := Run(layers, clients)
		if want := modelRun(layers, clients); e != api.OK || at != 0 || !sameReport(got, want) {
			t.Fatalf("P4 to P12: %v\n%v\nerror %d at %d\n%s\n%s\nwant\n%s\n%s", layers, clients, e, at, outcomeTexts(got.Outcomes), eventTexts(got.Events), outcomeTexts(want.Outcomes), eventTexts(want.Events))
		}
		for _, event := range got.Events {
			seen[event.What]++
		}
	}
	for what := api.EvBegan; what <= api.EvDropped; what++ {
		if seen[what] < 500 {
			t.Errorf("the inputs led to event %d only %d times", what, seen[what])
		}
	}
}
