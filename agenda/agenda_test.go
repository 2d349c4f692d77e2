package agenda

import (
	"fmt"
	"runtime"
	"strings"
	"testing"
	"time"
)

// diary notes what tasks do, with the time and the number of the task.
type diary struct {
	lines []string
}

func (d *diary) note(t *Task, what any) {
	d.lines = append(d.lines, fmt.Sprint(t.Now(), ".", t.Number(), " ", what))
}

func (d *diary) expect(t *testing.T, want ...string) {
	t.Helper()
	if got := strings.Join(d.lines, ", "); got != strings.Join(want, ", ") {
		t.Errorf("P5: happened: %s\n      want: %s", got, strings.Join(want, ", "))
	}
}

func TestEmptyAgendaIsOver(t *testing.T) {
	New().Run()
}

func TestTasksAreNumberedAsTheyAreMade(t *testing.T) {
	a := New()
	for i, client := range []int{4, 2, 4} {
		task := a.Begin(client, 10-i, func(*Task) {})
		if task.Number() != i || task.Client() != client {
			t.Errorf("P5: task %d of client %d is %d of %d", i, client, task.Number(), task.Client())
		}
	}
	a.Run()
}

func TestLeastTimeFirstAndOfOneTimeWhatWasPutFirst(t *testing.T) {
	a, d := New(), &diary{}
	for _, at := range []int{5, 0, 5, 3, 0} {
		a.Begin(0, at, func(task *Task) { d.note(task, "begins") })
	}
	a.Run()
	d.expect(t, "0.1 begins", "0.4 begins", "3.3 begins", "5.0 begins", "5.2 begins")
}

func TestEntryOfATimeStandsWhereItWasPut(t *testing.T) {
	a, d := New(), &diary{}
	sleeper := func(span int) func(*Task) {
		return func(task *Task) {
			task.Sleep(span)
			d.note(task, "woke")
		}
	}
	a.Begin(0, 2, sleeper(3))
	a.Begin(0, 0, sleeper(5))
	a.Begin(0, 5, sleeper(0))
	a.Begin(0, 4, sleeper(1))
	a.Run()
	d.expect(t, "5.1 woke", "5.0 woke", "5.3 woke", "5.2 woke")
}

func TestTaskGoesOnUntilItWaits(t *testing.T) {
	a, d := New(), &diary{}
	for range 2 {
		a.Begin(0, 1, func(task *Task) {
			d.note(task, "a")
			d.note(task, "b")
			task.Sleep(1)
			d.note(task, "c")
			d.note(task, "d")
		})
	}
	a.Run()
	d.expect(t, "1.0 a", "1.0 b", "1.1 a", "1.1 b", "2.0 c", "2.0 d", "2.1 c", "2.1 d")
}

func causeText(c Cause) string {
	return [...]string{"none", "time over", "came", "cancelled"}[c]
}

// waiter waits once and notes by what that ended.
func waiter(d *diary, span int, kept **Wait) func(*Task) {
	return func(task *Task) {
		w := task.StartWait(span)
		if kept != nil {
			*kept = w
		}
		d.note(task, causeText(w.End()))
	}
}

func TestWaitEndsWhenItsTimeIsOver(t *testing.T) {
	a, d := New(), &diary{}
	a.Begin(0, 2, waiter(d, 7, nil))
	a.Run()
	d.expect(t, "9.0 time over")
}

func TestWhatComesFixesTheCauseAndGetsInLine(t *testing.T) {
	a, d := New(), &diary{}
	var w *Wait
	a.Begin(0, 0, waiter(d, 7, &w))
	a.Begin(0, 3, func(task *Task) {
		d.note(task, w.Come())
		d.note(task, w.Come())
		d.note(task, "ends")
	})
	a.Begin(0, 3, func(task *Task) { d.note(task, "in between") })
	a.Run()
	d.expect(t, "3.1 true", "3.1 false", "3.1 ends", "3.2 in between", "3.0 came")
}

func TestWhatComesAheadOfTheEntryOfTheTimeWins(t *testing.T) {
	a, d := New(), &diary{}
	var w *Wait
	a.Begin(0, 7, func(task *Task) { d.note(task, w.Come()) })
	a.Begin(0, 0, waiter(d, 7, &w))
	a.Run()
	d.expect(t, "7.0 true", "7.1 came")
}

func TestWhatComesBehindTheEntryOfTheTimeComesToNothing(t *testing.T) {
	a, d := New(), &diary{}
	var w *Wait
	a.Begin(0, 0, waiter(d, 7, &w))
	a.Begin(0, 0, func(task *Task) {
		task.Sleep(7)
		d.note(task, w.Come())
	})
	a.Run()
	d.expect(t, "7.0 time over", "7.1 false")
}

func TestCancelEndsAWaitOnce(t *testing.T) {
	a, d := New(), &diary{}
	var w *Wait
	victim := a.Begin(0, 0, waiter(d, 7, &w))
	a.Begin(0, 3, func(task *Task) {
		victim.Cancel()
		victim.Cancel()
		d.note(task, w.Come())
		d.note(task, victim.Cancelled())
	})
	a.Run()
	d.expect(t, "3.1 false", "3.1 true", "3.0 cancelled")
}

func TestCancelComesToNothingWhenTheCauseIsFixed(t *testing.T) {
	a, d := New(), &diary{}
	var w *Wait
	victim := a.Begin(0, 0, waiter(d, 7, &w))
	a.Begin(0, 3, func(*Task) {
		w.Come()
		victim.Cancel()
	})
	a.Run()
	d.expect(t, "3.0 came")
	if !victim.Cancelled() {
		t.Error("P5: a task that has not ended is not cancelled")
	}
}

func TestCancelledTaskGoesOn(t *testing.T) {
	a, d := New(), &diary{}
	victim := a.Begin(0, 0, func(task *Task) {
		task.Sleep(5)
		d.note(task, task.Cancelled())
		d.note(task, causeText(task.StartWait(2).End()))
	})
	a.Begin(0, 3, func(task *Task) { victim.Cancel() })
	a.Run()
	d.expect(t, "5.0 true", "7.0 time over")
}

func TestCancelBehindAWaitDoesNotReachIt(t *testing.T) {
	a, d := New(), &diary{}
	victim := a.Begin(0, 0, func(task *Task) {
		d.note(task, causeText(task.StartWait(2).End()))
		task.Sleep(5)
		d.note(task, "woke")
	})
	a.Begin(0, 3, func(task *Task) { victim.Cancel() })
	a.Run()
	d.expect(t, "2.0 time over", "7.0 woke")
}

func TestTaskThatIsCancelledAheadOfItsBeginningBegins(t *testing.T) {
	a, d := New(), &diary{}
	victim := a.Begin(0, 1, func(task *Task) { d.note(task, task.Cancelled()) })
	a.Begin(0, 0, func(*Task) { victim.Cancel() })
	a.Run()
	d.expect(t, "1.0 true")
}

func TestTaskThatHasEndedIsNotCancelled(t *testing.T) {
	a := New()
	victim := a.Begin(0, 0, func(*Task) {})
	a.Begin(0, 0, func(*Task) { victim.Cancel() })
	a.Run()
	if victim.Cancelled() {
		t.Error("P5: a task was cancelled behind its end")
	}
}

func TestTaskBegunByATask(t *testing.T) {
	a, d := New(), &diary{}
	a.Begin(4, 2, func(task *Task) {
		w := task.StartWait(4)
		inner := task.Begin(func(inner *Task) {
			d.note(inner, "begins")
			inner.Sleep(4)
			d.note(inner, w.Come())
		})
		if inner.Number() != 2 || inner.Client() != 4 {
			t.Errorf("P12: the new task is %d of %d", inner.Number(), inner.Client())
		}
		d.note(task, causeText(w.End()))
	})
	a.Begin(0, 2, func(task *Task) { d.note(task, "begins") })
	a.Run()
	d.expect(t, "2.1 begins", "2.2 begins", "6.0 time over", "6.2 false")
}

// family begins task 0, in it 2 and 4, and in 2 the task 3; all of them wait from 2 on. At 5 task 1 cancels one of them.
func family(d *diary, victim int) {
	a, tasks := New(), map[int]*Task{}
	waits := func(task *Task) {
		tasks[task.Number()] = task
		cause := task.StartWait(9).End()
		d.note(task, causeText(cause))
	}
	a.Begin(0, 0, func(task *Task) {
		task.Begin(func(inner *Task) {
			inner.Sleep(1)
			inner.Begin(waits)
			waits(inner)
		})
		task.Sleep(2)
		task.Begin(waits)
		waits(task)
	})
	a.Begin(0, 5, func(task *Task) {
		d.note(task, "cancels")
		tasks[victim].Cancel()
	})
	a.Run()
}

func TestCancelReachesAllThatBeganInATask(t *testing.T) {
	for _, c := range []struct {
		victim int
		want   []string
	}{
		{0, []string{"5.1 cancels", "5.0 cancelled", "5.2 cancelled", "5.3 cancelled", "5.4 cancelled"}},
		{2, []string{"5.1 cancels", "5.2 cancelled", "5.3 cancelled", "11.0 time over", "11.4 time over"}},
		{3, []string{"5.1 cancels", "5.3 cancelled", "10.2 time over", "11.0 time over", "11.4 time over"}},
		{4, []string{"5.1 cancels", "5.4 cancelled", "10.2 time over", "10.3 time over", "11.0 time over"}},
	} {
		d := &diary{}
		family(d, c.victim)
		d.expect(t, c.want...)
	}
}

func TestCancelReachesWhatBeganInATaskThatHasEnded(t *testing.T) {
	a, d := New(), &diary{}
	var middle, last *Task
	top := a.Begin(0, 0, func(task *Task) {
		middle = task.Begin(func(inner *Task) { last = inner.Begin(waiter(d, 9, nil)) })
		task.Sleep(9)
	})
	a.Begin(0, 5, func(*Task) { top.Cancel() })
	a.Run()
	d.expect(t, "5.3 cancelled")
	if !top.Cancelled() || middle.Cancelled() || !last.Cancelled() {
		t.Errorf("P12: cancelled: the first %v, the second, which had ended, %v, the third %v", top.Cancelled(), middle.Cancelled(), last.Cancelled())
	}
}

func TestTaskThatIsCancelledAheadOfItsBeginningInAnother(t *testing.T) {
	a, d := New(), &diary{}
	top := a.Begin(0, 0, func(task *Task) {
		w := task.StartWait(9)
		task.Begin(func(inner *Task) { d.note(inner, inner.Cancelled()) })
		d.note(task, causeText(w.End()))
	})
	a.Begin(0, 0, func(*Task) { top.Cancel() })
	a.Run()
	d.expect(t, "0.2 true", "0.0 cancelled")
}

func TestAllTasksHaveEnded(t *testing.T) {
	before := runtime.NumGoroutine()
	a := New()
	for range 50 {
		a.Begin(0, 0, func(task *Task) { task.Sleep(3) })
	}
	a.Run()
	for range 200 {
		if runtime.NumGoroutine() <= before {
			return
		}
		time.Sleep(time.Millisecond)
	}
	t.Errorf("P2: goroutines: %d before, %d behind", before, runtime.NumGoroutine())
}
