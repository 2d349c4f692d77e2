// Package agenda: how time goes (P5): tasks, their waits, and the agenda by which one of them at a time goes on.
package agenda

import (
	"slices"
	"sync"
)

// entry: a time, and what goes on then.
type entry struct {
	at   int
	goOn func()
}

// Agenda gives the tasks their turns. What tasks share needs no lock: each handing over of the turn is a message over a channel without room, so only one goroutine goes on at a time.
type Agenda struct {
	now     int
	entries []entry
	begun   int
	waits   chan struct{}
	ends    chan struct{}
	group   sync.WaitGroup
}

// New makes an empty agenda.
func New() *Agenda {
	return &Agenda{waits: make(chan struct{}), ends: make(chan struct{})}
}

// put keeps the entries sorted by time, and those of one time in the order in which they were put.
func (a *Agenda) put(at int, goOn func()) {
	place := len(a.entries)
	for place > 0 && a.entries[place-1].at > at {
		place--
	}
	a.entries = slices.Insert(a.entries, place, entry{at, goOn})
}

// Begin makes the next task of a client and puts it on the agenda: at that time it begins to do its work, which must not panic.
func (a *Agenda) Begin(client, at int, work func(*Task)) *Task {
	t := &Task{agenda: a, number: a.begun, client: client, told: make(chan Cause)}
	a.begun++
	a.put(at, func() { a.start(t, work) })
	return t
}

func (a *Agenda) start(t *Task, work func(*Task)) {
	a.group.Go(func() {
		work(t)
		t.ended = true
		a.ends <- struct{}{}
	})
	a.untilHandedBack()
}

func (a *Agenda) resume(w *Wait) {
	w.task.told <- w.cause
	a.untilHandedBack()
}

// untilHandedBack: never are both ready, since only the task that has the turn can send.
func (a *Agenda) untilHandedBack() {
	select {
	case <-a.waits:
	case <-a.ends:
	}
}

// Run takes entry by entry off the agenda until it is empty. Then no task is left, as each wait has an entry for its time.
func (a *Agenda) Run() {
	for len(a.entries) > 0 {
		first := a.entries[0]
		a.entries = a.entries[1:]
		a.now = first.at
		first.goOn()
	}
	a.group.Wait()
}
