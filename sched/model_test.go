package sched_test

import (
	"slices"
	"testing"

	"hibernacle/api"
	"hibernacle/core"
	"hibernacle/follow"
	"hibernacle/sched"
)

// model is a scheduler as the chapter has it, of lists that are copied whenever they change; only the states are chapter 11's.
type model struct {
	p       api.Program
	c       api.Core
	room    int
	running []int
	own     [][]int
	global  []int
	moves   []follow.Move
	seen    []api.Event
}

// modelOf is one of a state, whose workers and room are such as are kept.
func modelOf(p api.Program, c api.Core, workers, room int) *model {
	m := &model{p: p, c: c, room: room, running: free(workers), own: make([][]int, workers)}
	w := 0
	for t, x := range c.Threads {
		if x.State == api.Ready {
			m.give(w, t)
			w++
		}
		if w == workers {
			w = 0
		}
	}
	return m
}

// with is a list, and one more.
func with(l []int, n int) []int {
	return append(slices.Clone(l), n)
}

// without is a list without what stands at a place of it.
func without(l []int, i int) []int {
	return slices.Delete(slices.Clone(l), i, i+1)
}

func (m *model) give(w, t int) {
	if len(m.own[w]) < m.room {
		m.own[w] = with(m.own[w], t)
	} else {
		m.global = with(m.global, t)
	}
}

func (m *model) has(w int) bool {
	return w >= 0 && w < len(m.running)
}

func (m *model) pick(t *testing.T, w, n int) (sched.Result, api.Errno) {
	t.Helper()
	if !m.has(w) {
		return sched.Result{}, api.ErrRange
	}
	if m.running[w] >= 0 {
		return m.step(t, w), api.OK
	}
	if last := len(m.own[w]) - 1; last >= 0 {
		m.running[w], m.own[w] = m.own[w][last], m.own[w][:last]
		return result(sched.Took, m.running[w]), api.OK
	}
	if len(m.global) > 0 {
		m.running[w], m.global = m.global[0], without(m.global, 0)
		return result(sched.Took, m.running[w]), api.OK
	}
	if n < 0 {
		n = -(n + 1)
	}
	from := n % len(m.running)
	if from == w || len(m.own[from]) == 0 {
		return sched.Result{}, api.OK
	}
	m.running[w], m.own[from] = m.own[from][0], without(m.own[from], 0)
	return result(sched.Stole, m.running[w]), api.OK
}

func (m *model) step(t *testing.T, w int) sched.Result {
	t.Helper()
	n := m.running[w]
	frames := m.c.Threads[n].Frames
	under := frames[len(frames)-1]
	code := m.p.Funcs[under.Func].Code
	yields := under.Pc < len(code) && code[under.Pc].Op == api.Yield
	c, seen, woken, e := core.Step(m.p, m.c, n)
	if e != api.OK {
		t.Fatalf("what this test leans on is no step: %d: %v", n, e)
	}
	m.c, m.seen, m.moves = c, slices.Concat(m.seen, seen), slices.Concat(m.moves, steps(n))
	for _, other := range woken {
		m.give(w, other)
	}
	if c.Threads[n].State != api.Ready {
		m.running[w] = -1
	} else if yields {
		m.running[w], m.global = -1, with(m.global, n)
	}
	return result(sched.Stepped, n, seen...)
}

func (m *model) tick(n int) []int {
	if n < 1 {
		return nil
	}
	c, woken := core.Tick(m.c, n)
	m.c, m.moves = c, slices.Concat(m.moves, ticks(n))
	for _, t := range woken {
		m.give(t%len(m.running), t)
	}
	return woken
}

func (m *model) claim(w, t int) api.Errno {
	if !m.has(w) {
		return api.ErrRange
	}
	if m.running[w] >= 0 {
		return api.ErrState
	}
	for from, l := range m.own {
		if i := slices.Index(l, t); i >= 0 {
			m.own[from], m.running[w] = without(l, i), t
			return api.OK
		}
	}
	if i := slices.Index(m.global, t); i >= 0 {
		m.global, m.running[w] = without(m.global, i), t
		return api.OK
	}
	return api.ErrState
}

func (m *model) park(w int) (int, api.Errno) {
	if !m.has(w) {
		return -1, api.ErrRange
	}
	t := m.running[w]
	if t >= 0 {
		m.running[w], m.global = -1, with(m.global, t)
	}
	return t, api.OK
}

// isModel asks that a scheduler is as its model, by all that it tells.
func isModel(t *testing.T, name string, s *sched.Sched, m *model) {
	t.Helper()
	isAt(t, name, s, m.running, m.own, m.global...)
	if got := s.Core(); !core.Same(got, m.c) {
		t.Errorf("%s: the state is %v, not %v", name, got, m.c)
	}
	isMoves(t, name, s, m.moves)
	if got := s.Seen(); !slices.Equal(got, m.seen) {
		t.Errorf("%s: %v was seen, not %v", name, got, m.seen)
	}
}
