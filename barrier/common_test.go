package barrier_test

import (
	"fmt"
	"math"
	"slices"
	"testing"

	"hibernacle/api"
	"hibernacle/barrier"
	"hibernacle/code"
	"hibernacle/core"
	"hibernacle/sched"
	"hibernacle/stack"
)

// mark stands in all spare room, where nothing that the package does may reach.
const mark = -987654321

// far is numbers that lie far out.
var far = []int{math.MinInt, math.MinInt + 1, -1 << 61, -1 << 32, -1 << 31, -65, -2, -1, 64, 65, 1 << 31, 1 << 32, 1<<32 + 1, 1 << 61, math.MaxInt - 1, math.MaxInt}

// in is code of pairs: an Op, its A.
func in(l ...int) []api.Instr {
	var code []api.Instr
	for i := 0; i < len(l); i += 2 {
		code = append(code, api.Instr{Op: l[i], A: l[i+1]})
	}
	return code
}

// program is one of a function for each code, with a local each, and a few things of each kind.
func program(t *testing.T, codes ...[]api.Instr) api.Program {
	t.Helper()
	p := api.Program{Mutexes: 2, Conds: []int{1, 0, 1}, Semas: []int{0, 2}, Chans: []int{0, 1, 2}, Choices: [][]int{{2, 0}, {1}}, Threads: api.MaxThreads}
	for _, c := range codes {
		p.Funcs = append(p.Funcs, api.Func{Locals: 1, Code: c})
	}
	if !code.May(p) {
		t.Fatalf("what this test leans on is no program: %v", p)
	}
	return p
}

// stand is a state of p with a thread of each of these functions, at its beginning: 0, 1 and so on.
func stand(p api.Program, funcs ...int) api.Core {
	c := core.New(p)
	c.Threads = nil
	for _, f := range funcs {
		c.Threads = append(c.Threads, stack.New(p, f))
	}
	return c
}

// crowd is a scheduler of n threads, each of which prints 1 on and on.
func crowd(t *testing.T, n, workers, room int) *sched.Sched {
	t.Helper()
	p := program(t, in(api.Push, 1, api.Print, 0, api.Jump, 0))
	return sched.From(p, stand(p, make([]int, n)...), workers, room)
}

// sleepers is a scheduler of threads that sleep, each till its tick, and print 1 on and on then.
func sleepers(t *testing.T, workers int, ticks ...int) *sched.Sched {
	t.Helper()
	p := program(t, in(api.Push, 1, api.Print, 0, api.Jump, 0))
	c := stand(p, make([]int, len(ticks))...)
	for i, tick := range ticks {
		c.Threads[i].State, c.Threads[i].On = api.Sleeping, tick
	}
	return sched.From(p, c, workers, 1)
}

// picks lets workers be picked, one behind the other, each with the number 0.
func picks(b *barrier.Barrier, l ...int) {
	for _, w := range l {
		b.Pick(w, 0)
	}
}

// rest asks for a barrier, and picks all workers once.
func rest(t *testing.T, b *barrier.Barrier) {
	t.Helper()
	b.Ask()
	for w := range b.Sched().Workers() {
		b.Pick(w, 0)
	}
	if !b.Done() {
		t.Fatalf("all were picked, and %d are left", b.Left())
	}
}

// remark brings a barrier to rest, marks it, and lets all go on.
func remark(t *testing.T, b *barrier.Barrier) {
	t.Helper()
	rest(t, b)
	if _, e := b.Mark(); e != api.OK {
		t.Fatalf("Mark: error %d", e)
	}
	b.Release()
}

// result is one of a kind, a thread and what was seen.
func result(kind, t int, seen ...api.Event) sched.Result {
	return sched.Result{Kind: kind, Thread: t, Seen: seen}
}

// sameResult tells whether two of them are one.
func sameResult(a, b sched.Result) bool {
	return a.Kind == b.Kind && a.Thread == b.Thread && slices.Equal(a.Seen, b.Seen)
}

// isPick asks that a pick of w with n goes, and what happens by it.
func isPick(t *testing.T, name string, b *barrier.Barrier, w, n int, want sched.Result) {
	t.Helper()
	if got, e := b.Pick(w, n); e != api.OK || !sameResult(got, want) {
		t.Errorf("%s: Pick(%d, %d): %v, error %d, not %v", name, w, n, got, e, want)
	}
}

// isNoPick asks that a pick is of no worker.
func isNoPick(t *testing.T, name string, b *barrier.Barrier, w, n int) {
	t.Helper()
	if got, e := b.Pick(w, n); e != api.ErrRange || !sameResult(got, sched.Result{}) {
		t.Errorf("%s: Pick(%d, %d): %v, error %d, not the zero one, %d", name, w, n, got, e, api.ErrRange)
	}
}

// isAsk asks whether it was not asked for ahead.
func isAsk(t *testing.T, name string, b *barrier.Barrier, want bool) {
	t.Helper()
	if got := b.Ask(); got != want {
		t.Errorf("%s: Ask: %v", name, got)
	}
}

// isRelease asks which error a Release has.
func isRelease(t *testing.T, name string, b *barrier.Barrier, want api.Errno) {
	t.Helper()
	if e := b.Release(); e != want {
		t.Errorf("%s: Release: error %d, not %d", name, e, want)
	}
}

// isMark asks what a Mark tells.
func isMark(t *testing.T, name string, b *barrier.Barrier, want int, wantErr api.Errno) {
	t.Helper()
	if got, e := b.Mark(); got != want || e != wantErr {
		t.Errorf("%s: Mark: %d, error %d, not %d, %d", name, got, e, want, wantErr)
	}
}

// isFree asks that a barrier is not asked for: none is parked, and none is left.
func isFree(t *testing.T, name string, b *barrier.Barrier) {
	t.Helper()
	if b.Done() || b.Left() != 0 {
		t.Errorf("%s: Done %v, Left %d, though it is not asked for", name, b.Done(), b.Left())
	}
	isParked(t, name, b)
}

// isAsked asks that a barrier is asked for, and just these workers are parked.
func isAsked(t *testing.T, name string, b *barrier.Barrier, parked ...int) {
	t.Helper()
	left := b.Sched().Workers() - len(parked)
	if b.Left() != left || b.Done() != (left == 0) {
		t.Errorf("%s: Done %v, Left %d, not %d", name, b.Done(), b.Left(), left)
	}
	isParked(t, name, b, parked...)
}

// isParked asks of each worker, and of numbers that are none's, whether it is one of these.
func isParked(t *testing.T, name string, b *barrier.Barrier, l ...int) {
	t.Helper()
	for w := range b.Sched().Workers() {
		if got := b.Parked(w); got != slices.Contains(l, w) {
			t.Errorf("%s: Parked(%d): %v, where %v are", name, w, got, l)
		}
	}
	for _, w := range outside(b.Sched().Workers()) {
		if b.Parked(w) {
			t.Errorf("%s: Parked(%d), where %d workers are", name, w, b.Sched().Workers())
		}
	}
}

// isChanged asks which threads, and which things, changed since the last mark.
func isChanged(t *testing.T, name string, b *barrier.Barrier, threads []int, things ...barrier.Thing) {
	t.Helper()
	if got := b.Threads(); !slices.Equal(got, threads) {
		t.Errorf("%s: the threads %v changed, not %v", name, got, threads)
	}
	if got := b.Things(); !slices.Equal(got, things) {
		t.Errorf("%s: the things %v changed, not %v", name, got, things)
	}
}

// isBetween asks which threads, and which things, changed from one state to another one.
func isBetween(t *testing.T, name string, was, now api.Core, threads []int, things ...barrier.Thing) {
	t.Helper()
	gotThreads, gotThings := barrier.Between(was, now)
	if !slices.Equal(gotThreads, threads) || !slices.Equal(gotThings, things) {
		t.Errorf("%s: %v, %v changed, not %v, %v", name, gotThreads, gotThings, threads, things)
	}
}

// isPool asks what runs at each worker (-1: none), and what the global queue has.
func isPool(t *testing.T, name string, s *sched.Sched, running []int, global ...int) {
	t.Helper()
	for w, n := range running {
		if got := s.Running(w); got != n {
			t.Errorf("%s: at %d runs %d, not %d", name, w, got, n)
		}
	}
	if got := s.Pool().Global(); !slices.Equal(got, global) {
		t.Errorf("%s: the global queue has %v, not %v", name, got, global)
	}
}

// all is all that a scheduler tells, as a text.
func all(s *sched.Sched) string {
	return fmt.Sprint(s.Core(), s.Moves(), s.Seen(), s.Places())
}

// row is some numbers.
func row(l ...int) []int { return l }

// mutex, cond, sema and channel are the things at these places.
func mutex(n int) barrier.Thing   { return barrier.Thing{Kind: 0, N: n} }
func cond(n int) barrier.Thing    { return barrier.Thing{Kind: 1, N: n} }
func sema(n int) barrier.Thing    { return barrier.Thing{Kind: 2, N: n} }
func channel(n int) barrier.Thing { return barrier.Thing{Kind: 3, N: n} }

// outside is numbers that are no worker's of so many.
func outside(workers int) []int {
	l := append([]int{-workers, workers, workers + 1, 2 * workers}, far...)
	return slices.DeleteFunc(l, func(w int) bool { return w >= 0 && w < workers })
}
