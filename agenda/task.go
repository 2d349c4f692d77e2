package agenda

import (
	"cmp"
	"slices"
)

// Cause: by what a wait ended.
type Cause int

const (
	none Cause = iota
	// TimeOver: its time is over.
	TimeOver
	// Came: something came to it.
	Came
	// Cancelled: it was cancelled.
	Cancelled
)

// Task is a call on its way.
type Task struct {
	agenda         *Agenda
	number, client int
	told           chan Cause
	cancellable    *Wait
	begun          []*Task // those that began in this one
	cancelled      bool
	ended          bool
}

// Number tells the task's number: from 0 on, in the order in which they were made.
func (t *Task) Number() int { return t.number }

// Client tells whose task it is.
func (t *Task) Client() int { return t.client }

// Now tells the present time.
func (t *Task) Now() int { return t.agenda.now }

// Cancelled tells whether the task was cancelled.
func (t *Task) Cancelled() bool { return t.cancelled }

// Begin puts a new task of the same client on the agenda for the present time: one that began in this one.
func (t *Task) Begin(work func(*Task)) *Task {
	inner := t.agenda.Begin(t.client, t.Now(), work)
	t.begun = append(t.begun, inner)
	return inner
}

// Cancel reaches all tasks that began in this one too, and in these, and so on. They go on all the same: only waits that can be cancelled end by it.
func (t *Task) Cancel() {
	family := t.family()
	for _, member := range family {
		if !member.ended {
			member.cancelled = true
		}
	}
	for _, member := range family {
		member.cancelWait()
	}
}

// family: the task and all that began in it, and in these, in the order of their numbers.
func (t *Task) family() []*Task {
	members := []*Task{t}
	for i := 0; i < len(members); i++ {
		members = append(members, members[i].begun...)
	}
	slices.SortFunc(members, func(a, b *Task) int { return cmp.Compare(a.number, b.number) })
	return members
}

// cancelWait: if the task's last wait has ended, its cause is fixed, and this comes to nothing.
func (t *Task) cancelWait() {
	if t.cancellable != nil {
		t.cancellable.fix(Cancelled)
	}
}

// Sleep waits until the time is over, whatever else happens.
func (t *Task) Sleep(span int) {
	t.newWait(span).End()
}

// StartWait begins a wait that can be cancelled, and to which something can come. It is apart from End, so that others can be told of the wait, and entries put behind the one for its time.
func (t *Task) StartWait(span int) *Wait {
	t.cancellable = t.newWait(span)
	return t.cancellable
}

func (t *Task) newWait(span int) *Wait {
	w := &Wait{task: t}
	t.agenda.put(t.agenda.now+span, w.timeOver)
	return w
}

// Wait ends once, by the cause that was first.
type Wait struct {
	task  *Task
	cause Cause
}

// End hands the turn over until the wait has ended, and tells by what.
func (w *Wait) End() Cause {
	w.task.agenda.waits <- struct{}{}
	return <-w.task.told
}

// Come: something comes to the wait; false, if it comes to nothing.
func (w *Wait) Come() bool { return w.fix(Came) }

func (w *Wait) timeOver() {
	if w.cause == none {
		w.cause = TimeOver
		w.task.agenda.resume(w)
	}
}

// fix does not let the task go on at once: it has to get in line behind what is on the agenda for the present time.
func (w *Wait) fix(cause Cause) bool {
	if w.cause != none {
		return false
	}
	w.cause = cause
	a := w.task.agenda
	a.put(a.now, func() { a.resume(w) })
	return true
}
