package layer

import (
	"parapet/agenda"
	"parapet/api"
	"parapet/fault"
)

// limit gives up what takes too long (P12).
type limit struct {
	common
	longest int
}

// Enter leaves the way inwards to a new task, so that this one can turn back while that one still goes on.
func (l *limit) Enter(t *agenda.Task) (int, error) {
	if t.Cancelled() {
		return l.drop(t)
	}
	var came answer
	wait := t.StartWait(l.longest)
	inner := t.Begin(func(inner *agenda.Task) {
		came = answerOf(l.within, inner)
		wait.Come()
	})
	switch wait.End() {
	case agenda.TimeOver:
		return l.cut(t, inner)
	case agenda.Cancelled:
		return l.drop(t)
	}
	return came.goOutwards()
}

// cut gives the task up that went on inwards.
func (l *limit) cut(t, inner *agenda.Task) (int, error) {
	l.tell(t, api.EvCut, 0)
	inner.Cancel()
	return l.fail(fault.Late, 0)
}
