package locks_test

import (
	"math"
	"slices"
	"testing"

	"hibernacle/api"
	"hibernacle/locks"
)

// mark is what lies in all spare room, so that it is seen if anything is put there.
const mark = -77

// far is numbers that lie far out.
var far = []int{math.MinInt, math.MinInt + 1, -1 << 61, -1<<32 - 1, -1 << 32, -1 << 31, -2, -1, 1 << 31, 1 << 32, 1<<32 + 1, 1 << 61, math.MaxInt - 1, math.MaxInt}

// model is a state as the chapter has it: its rows are copied whenever they change.
type model struct {
	owners, counts      []int
	lockq, waitq, downq [][]int
}

// fresh is a model of so many things.
func fresh(mutexes, conds int, semas ...int) *model {
	s := &model{counts: slices.Clone(semas)}
	for range mutexes {
		s.owners = append(s.owners, -1)
		s.lockq = append(s.lockq, nil)
	}
	for range conds {
		s.waitq = append(s.waitq, nil)
	}
	for range semas {
		s.downq = append(s.downq, nil)
	}
	return s
}

// leave takes the first one out of a row; there is one.
func leave(row *[]int) int {
	t := (*row)[0]
	*row = slices.Clone((*row)[1:])
	return t
}

// come puts one behind the others of a row.
func come(row *[]int, t int) {
	*row = append(slices.Clone(*row), t)
}

func (s *model) lock(m, t int) bool {
	if s.owners[m] == -1 {
		s.owners[m] = t
		return true
	}
	come(&s.lockq[m], t)
	return false
}

func (s *model) unlock(m, t int) (int, api.Errno) {
	if s.owners[m] != t {
		return -1, api.ErrState
	}
	s.owners[m] = -1
	if len(s.lockq[m]) > 0 {
		s.owners[m] = leave(&s.lockq[m])
	}
	return s.owners[m], api.OK
}

func (s *model) wait(cond, m, t int) (int, api.Errno) {
	to, e := s.unlock(m, t)
	if e == api.OK {
		come(&s.waitq[cond], t)
	}
	return to, e
}

func (s *model) signal(cond, m int) (int, bool) {
	if len(s.waitq[cond]) == 0 {
		return -1, false
	}
	t := leave(&s.waitq[cond])
	if s.owners[m] == -1 {
		s.owners[m] = t
		return t, true
	}
	come(&s.lockq[m], t)
	return t, false
}

func (s *model) broadcast(cond, m int) ([]int, int) {
	l := s.waitq[cond]
	s.waitq[cond] = nil
	if len(l) == 0 || s.owners[m] != -1 {
		for _, t := range l {
			come(&s.lockq[m], t)
		}
		return l, -1
	}
	s.owners[m] = l[0]
	for _, t := range l[1:] {
		come(&s.lockq[m], t)
	}
	return l, l[0]
}

func (s *model) down(i, t int) bool {
	if s.counts[i] > 0 {
		s.counts[i]--
		return true
	}
	come(&s.downq[i], t)
	return false
}

func (s *model) up(i int) int {
	if len(s.downq[i]) > 0 {
		return leave(&s.downq[i])
	}
	s.counts[i]++
	return -1
}

func (s *model) free() bool {
	for _, owner := range s.owners {
		if owner != -1 {
			return false
		}
	}
	for _, row := range slices.Concat(s.lockq, s.waitq, s.downq) {
		if len(row) > 0 {
			return false
		}
	}
	return true
}

// roomy is a list with marked room behind it.
func roomy(l []int) []int {
	r := make([]int, len(l)+3)
	copy(r, l)
	for i := len(l); i < len(r); i++ {
		r[i] = mark
	}
	return r[:len(l)]
}

// inOneArray is rows that lie in one array, each with the one behind it in its room.
func inOneArray(rows [][]int) [][]int {
	all := slices.Concat(rows...)
	all = append(all, mark, mark, mark, mark)
	at := 0
	cut := make([][]int, len(rows))
	for i, row := range rows {
		cut[i] = all[at : at+len(row)]
		at += len(row)
	}
	return cut
}

// core is the state of a model. Its rows have others in the room behind them, and all else has numbers of its own, so that it is seen if any of it is changed.
func (s *model) core() api.Core {
	c := others()
	c.Owners, c.Counts = roomy(s.owners), roomy(s.counts)
	c.LockQ, c.WaitQ, c.DownQ = inOneArray(s.lockq), inOneArray(s.waitq), inOneArray(s.downq)
	return c
}

// others is what no call of this layer asks or changes.
func others() api.Core {
	return api.Core{
		Now:     41,
		Threads: []api.Thread{{State: api.Locking, On: 7, Frames: []api.Frame{{Func: 3, Pc: 4, Locals: []int{5}}}, Stack: []int{6}}, {State: api.Dead, Code: 2}},
		Bufs:    [][]int{{1, 2}, nil},
		SendQ:   [][]int{{3, 4}, {5, 6, 7, 8}},
		RecvQ:   [][]int{{9}, {0, 1}},
	}
}

// sameRows tells whether two lists of rows are one.
func sameRows(a, b [][]int) bool {
	return slices.EqualFunc(a, b, slices.Equal[[]int])
}

// isState asks that of a state the things of this layer are just those of a model.
func isState(t *testing.T, name string, c api.Core, s *model) {
	t.Helper()
	if !slices.Equal(c.Owners, s.owners) || !sameRows(c.LockQ, s.lockq) {
		t.Errorf("%s: mutexes: %v, %v, not %v, %v", name, c.Owners, c.LockQ, s.owners, s.lockq)
	}
	if !sameRows(c.WaitQ, s.waitq) {
		t.Errorf("%s: conditions: %v, not %v", name, c.WaitQ, s.waitq)
	}
	if !slices.Equal(c.Counts, s.counts) || !sameRows(c.DownQ, s.downq) {
		t.Errorf("%s: semaphores: %v, %v, not %v, %v", name, c.Counts, c.DownQ, s.counts, s.downq)
	}
	if got := locks.Free(c); got != s.free() {
		t.Errorf("%s: Free: %v", name, got)
	}
}

// isElse asks that of a state all that is not of this layer is as a.
func isElse(t *testing.T, name string, c, a api.Core) {
	t.Helper()
	same := func(a, b api.Thread) bool {
		return a.State == b.State && a.On == b.On && a.Code == b.Code && slices.Equal(a.Stack, b.Stack) &&
			slices.EqualFunc(a.Frames, b.Frames, func(a, b api.Frame) bool {
				return a.Func == b.Func && a.Pc == b.Pc && slices.Equal(a.Locals, b.Locals)
			})
	}
	if c.Now != a.Now || !slices.EqualFunc(c.Threads, a.Threads, same) || !sameRows(c.Bufs, a.Bufs) || !sameRows(c.SendQ, a.SendQ) || !sameRows(c.RecvQ, a.RecvQ) {
		t.Errorf("%s: other things than these are changed: %v", name, c)
	}
}

// rooms is each row of a state with the room behind it.
func rooms(c api.Core) [][]int {
	var l [][]int
	for _, row := range slices.Concat(c.LockQ, c.WaitQ, c.DownQ) {
		l = append(l, row[:cap(row)])
	}
	return append(l, c.Owners[len(c.Owners):cap(c.Owners)], c.Counts[len(c.Counts):cap(c.Counts)])
}

// copies is a copy of each list.
func copies(l [][]int) [][]int {
	m := make([][]int, len(l))
	for i, row := range l {
		m[i] = slices.Clone(row)
	}
	return m
}

// does asks that a call, of the state of a model, answers what the model does, brings both to the same, changes nothing else, and puts nothing into the room behind any row.
func does(t *testing.T, name string, s *model, call func(c *api.Core, s *model) bool) {
	t.Helper()
	c := s.core()
	behind := rooms(c)
	was := copies(behind)
	if !call(&c, s) {
		t.Errorf("%s: it answers something else", name)
	}
	isState(t, name, c, s)
	isElse(t, name, c, others())
	if !sameRows(behind, was) {
		t.Errorf("%s: the room behind rows: %v, not %v", name, behind, was)
	}
}

// clone is a model of its own.
func (s *model) clone() *model {
	return &model{slices.Clone(s.owners), slices.Clone(s.counts), copies(s.lockq), copies(s.waitq), copies(s.downq)}
}

// numbers is n numbers from one on, all of which differ.
func numbers(from, n int) []int {
	l := make([]int, n)
	for i := range l {
		l[i] = from + i
	}
	return l
}
