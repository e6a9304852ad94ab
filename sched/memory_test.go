package sched_test

import (
	"slices"
	"testing"

	"hibernacle/api"
	"hibernacle/code"
	"hibernacle/core"
	"hibernacle/follow"
	"hibernacle/sched"
)

// R4, of what is handed in, kept and answered

// spare is the room behind l.
func spare[T any](l []T) []T {
	return l[len(l):cap(l)]
}

// roomy is a list in other memory, with room behind it, in which v stands.
func roomy[T any](l []T, v T) []T {
	m := append(make([]T, 0, len(l)+4), l...)
	over(spare(m), v)
	return m
}

// over writes v over all of a list, spare room too.
func over[T any](l []T, v T) {
	l = l[:cap(l)]
	for i := range l {
		l[i] = v
	}
}

// listsOf is each list of numbers of a state.
func listsOf(c *api.Core) []*[]int {
	l := []*[]int{&c.Owners, &c.Counts}
	for _, rows := range [][][]int{c.Bufs, c.LockQ, c.WaitQ, c.DownQ, c.SendQ, c.RecvQ} {
		for i := range rows {
			l = append(l, &rows[i])
		}
	}
	for i := range c.Threads {
		l = append(l, &c.Threads[i].Stack)
		for j := range c.Threads[i].Frames {
			l = append(l, &c.Threads[i].Frames[j].Locals)
		}
	}
	return l
}

// programLists is each list of numbers of a program.
func programLists(p *api.Program) []*[]int {
	l := []*[]int{&p.Conds, &p.Semas, &p.Chans}
	for i := range p.Choices {
		l = append(l, &p.Choices[i])
	}
	return l
}

// roomyOf is a program and a state in other memory, each list of numbers with marked room behind it.
func roomyOf(p api.Program, c api.Core) (api.Program, api.Core) {
	p, c = code.Clone(p), core.Clone(c)
	for _, l := range append(listsOf(&c), programLists(&p)...) {
		*l = roomy(*l, mark)
	}
	return p, c
}

// isMarked tells whether all room of a roomy program and state is as it was.
func isMarked(p api.Program, c api.Core) bool {
	return !slices.ContainsFunc(append(listsOf(&c), programLists(&p)...), func(l *[]int) bool {
		return len(spare(*l)) != 4 || slices.ContainsFunc(spare(*l), func(n int) bool { return n != mark })
	})
}

// scratchState writes over all that is to be reached of a state, the innermost first.
func scratchState(c api.Core) {
	for _, l := range listsOf(&c) {
		over(*l, -77)
	}
	for _, rows := range [][][]int{c.Bufs, c.LockQ, c.WaitQ, c.DownQ, c.SendQ, c.RecvQ} {
		over(rows, []int{-78})
	}
	for _, x := range c.Threads {
		over(x.Frames, api.Frame{Func: -79})
	}
	over(c.Threads, api.Thread{State: -80})
}

// scratchProgram writes over all that is to be reached of a program.
func scratchProgram(p api.Program) {
	for _, l := range programLists(&p) {
		over(*l, -77)
	}
	over(p.Choices, []int{-78})
	for _, f := range p.Funcs {
		over(f.Code, api.Instr{Op: api.Exit})
	}
	over(p.Funcs, api.Func{})
}

// scratchRows writes over lists, each of them, and that which has them.
func scratchRows(l [][]int) {
	for _, row := range l {
		over(row, -77)
	}
	over(l, []int{-78})
}

// scratchAnswers writes over all that a scheduler answers.
func scratchAnswers(s *sched.Sched) {
	scratchState(s.Core())
	over(s.Moves(), follow.Move{Kind: mark})
	over(s.Seen(), api.Event{Kind: mark})
	scratchRows(s.Places())
}

// busy is a program whose threads have to do with all kinds of things, and sleep.
func busy(t *testing.T) api.Program {
	t.Helper()
	return program(t,
		in(api.Spawn, 1, api.Print, 0, api.Spawn, 2, api.Print, 0, api.Spawn, 3, api.Print, 0, api.Call, 3),
		in(api.Lock, 0, api.Wait, 0, api.Unlock, 0, api.Down, 0, api.Push, 4, api.Send, 0, api.Push, 6, api.Send, 1, api.Jump, 0),
		in(api.Recv, 0, api.Print, 0, api.Select, 0, api.Print, 0, api.Print, 0, api.Jump, 0),
		in(api.Push, 1, api.Set, 0, api.Get, 0, api.Print, 0, api.Yield, 0, api.Broadcast, 0, api.Up, 0, api.Push, 1, api.Sleep, 0, api.Jump, 2),
	)
}

// isAsItsModel lets a scheduler and its model go on for some rounds, and asks that they are one; what each pick tells is written over, and so is what ahead of it does.
func isAsItsModel(t *testing.T, name string, s *sched.Sched, m *model, rounds int, ahead func()) {
	t.Helper()
	for i := range rounds {
		for w := range s.Workers() {
			ahead()
			want, e := m.pick(t, w, w+i)
			got, f := s.Pick(w, w+i)
			if e != f || !sameResult(got, want) {
				t.Fatalf("%s: %v, error %d, not %v, %d", name, got, f, want, e)
			}
			over(got.Seen, api.Event{Kind: mark})
		}
		want := m.tick(i % 2)
		woken := s.Tick(i % 2)
		if !slices.Equal(woken, want) {
			t.Fatalf("%s: %v is woken, not %v", name, woken, want)
		}
		over(woken, mark)
	}
	isModel(t, name, s, m)
	if len(s.Seen()) < rounds/8 {
		t.Errorf("%s: only %v was seen, so that this test asks little", name, s.Seen())
	}
}

// What is handed in is not kept: it may be all another one later.
func TestWhatIsHandedInIsNotKept(t *testing.T) {
	p := busy(t)
	for _, workers := range []int{1, 3} {
		q, c := roomyOf(p, core.New(p))
		s := sched.From(q, c, workers, 1)
		scratchProgram(q)
		scratchState(c)
		isAsItsModel(t, "From", s, modelOf(p, core.New(p), workers, 1), 200, func() {})
		q = code.Clone(p)
		s = sched.New(q, workers, 1)
		scratchProgram(q)
		isAsItsModel(t, "New", s, modelOf(p, core.New(p), workers, 1), 200, func() {})
	}
}

// What is handed in is not changed, whatever becomes of the scheduler, its spare room neither.
func TestWhatIsHandedInIsNotChanged(t *testing.T) {
	p := busy(t)
	moved := sched.New(p, 2, 1)
	for range 60 {
		moved.Pick(0, 1)
		moved.Pick(1, 0)
	}
	for _, c := range []api.Core{core.New(p), moved.Core()} {
		q, given := roomyOf(p, c)
		s := sched.From(q, given, 2, 1)
		isAsItsModel(t, "From", s, modelOf(p, c, 2, 1), 200, func() {})
		scratchAnswers(s)
		if !code.Same(q, p) || !core.Same(given, c) || !isMarked(q, given) {
			t.Errorf("it is %v, %v, not %v, %v", q, given, p, c)
		}
	}
}

// What is answered is new: a scheduler is as it was, whatever is written there.
func TestAnswersAreNew(t *testing.T) {
	p := busy(t)
	for _, workers := range []int{1, 2, 5} {
		s := sched.New(p, workers, 2)
		isAsItsModel(t, "answers written over", s, modelOf(p, core.New(p), workers, 2), 200, func() { scratchAnswers(s) })
	}
}

// What was answered stays as it is, whatever becomes of the scheduler, and of another answer.
func TestAnswersStay(t *testing.T) {
	s := sched.New(busy(t), 2, 1)
	for i := range 150 {
		c, moves, seen, places := s.Core(), s.Moves(), s.Seen(), s.Places()
		wantC, wantMoves, wantSeen := core.Clone(c), slices.Clone(moves), slices.Clone(seen)
		var wantPlaces [][]int
		for _, l := range places {
			wantPlaces = append(wantPlaces, slices.Clone(l))
		}
		s.Pick(i%2, i)
		s.Tick(i % 3 / 2)
		scratchAnswers(s)
		if !core.Same(c, wantC) || !slices.Equal(moves, wantMoves) || !slices.Equal(seen, wantSeen) || !sameRows(places, wantPlaces) {
			t.Fatalf("what was answered ahead of the pick %d is another one", i)
		}
	}
}

// No two lists of an answer share memory, spare room neither.
func TestListsOfPlacesAreTheirOwn(t *testing.T) {
	p, c := crowd(t, 12, 0, 1, 2, 3, 4, 5, 6, 7, 8, 9)
	s := sched.From(p, c, 3, 2)
	s.Pick(0, 0)
	s.Pick(2, 0)
	places := s.Places()
	for i, l := range places {
		over(l, 1000+i)
	}
	for i, l := range places {
		if slices.ContainsFunc(l[:cap(l)], func(n int) bool { return n != 1000+i }) {
			t.Errorf("the list %d is %v", i, l[:cap(l)])
		}
	}
}

// Schedulers of one program and one state have nothing to do with one another.
func TestSchedulersAreTheirOwn(t *testing.T) {
	p := busy(t)
	c := core.New(p)
	a, b := sched.From(p, c, 2, 1), sched.From(p, c, 2, 1)
	isAsItsModel(t, "the first one", a, modelOf(p, c, 2, 1), 200, func() {})
	isModel(t, "the other one", b, modelOf(p, c, 2, 1))
	isAsItsModel(t, "the other one", b, modelOf(p, c, 2, 1), 200, func() { a.Pick(0, 0) })
}
