package agenda

// Cause: by what a wait ended.
type Cause int

const (
	none Cause = iota
	// TimeOver: its time is over.
	TimeOver
	// Came: something came to it.
	Came
	// Cancelled: it was cancelled.
	Cancelled
)

// Task is a call on its way.
type Task struct {
	agenda         *Agenda
	number, client int
	told           chan Cause
	cancellable    *Wait
	cancelled      bool
	ended          bool
}

// Number tells the task's number: from 0 on, in the order in which they were made.
func (t *Task) Number() int { return t.number }

// Client tells whose task it is.
func (t *Task) Client() int { return t.client }

// Now tells the present time.
func (t *Task) Now() int { return t.agenda.now }

// Cancelled tells whether the task was cancelled.
func (t *Task) Cancelled() bool { return t.cancelled }

// Cancel: the task goes on all the same, only a wait that can be cancelled ends by it. If its last one has ended, its cause is fixed, and this comes to nothing.
func (t *Task) Cancel() {
	if t.ended {
		return
	}
	t.cancelled = true
	if t.cancellable != nil {
		t.cancellable.fix(Cancelled)
	}
}

// Sleep waits until the time is over, whatever else happens.
func (t *Task) Sleep(span int) {
	t.newWait(span).End()
}

// StartWait begins a wait that can be cancelled, and to which something can come. It is apart from End, so that others can be told of the wait, and entries put behind the one for its time.
func (t *Task) StartWait(span int) *Wait {
	t.cancellable = t.newWait(span)
	return t.cancellable
}

func (t *Task) newWait(span int) *Wait {
	w := &Wait{task: t}
	t.agenda.put(t.agenda.now+span, w.timeOver)
	return w
}

// Wait ends once, by the cause that was first.
type Wait struct {
	task  *Task
	cause Cause
}

// End hands the turn over until the wait has ended, and tells by what.
func (w *Wait) End() Cause {
	w.task.agenda.waits <- struct{}{}
	return <-w.task.told
}

// Come: something comes to the wait; false, if it comes to nothing.
func (w *Wait) Come() bool { return w.fix(Came) }

func (w *Wait) timeOver() {
	if w.cause == none {
		w.cause = TimeOver
		w.task.agenda.resume(w)
	}
}

// fix does not let the task go on at once: it has to get in line behind what is on the agenda for the present time.
func (w *Wait) fix(cause Cause) bool {
	if w.cause != none {
		return false
	}
	w.cause = cause
	a := w.task.agenda
	a.put(a.now, func() { a.resume(w) })
	return true
}
