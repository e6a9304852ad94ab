package sched_test

import (
	"slices"
	"testing"

	"hibernacle/api"
	"hibernacle/core"
	"hibernacle/sched"
)

// P13.2

// A thread may be claimed wherever it is in the pool: in each deque, at each place, and in the global queue.
func TestClaim(t *testing.T) {
	p, c := crowd(t, 9, 0, 1, 2, 3, 4, 5, 6, 7, 8)
	own, global := rows(row(0, 2, 4), row(1, 3, 5)), row(6, 7, 8)
	for w := range 2 {
		for n := range 9 {
			s := sched.From(p, c, 2, 3)
			isAt(t, "at first", s, free(2), own, global...)
			isClaim(t, "one", s, w, n, api.OK)
			running := free(2)
			running[w] = n
			isAt(t, "one", s, running, rows(but(own[0], n), but(own[1], n)), but(global, n)...)
			isMoves(t, "one", s)
			isPick(t, "it", s, w, 0, result(sched.Stepped, n))
			isPick(t, "it", s, w, 0, result(sched.Stepped, n, printed(n, 1)))
		}
	}
}

// but is l without n.
func but(l []int, n int) []int {
	return slices.DeleteFunc(slices.Clone(l), func(v int) bool { return v == n })
}

// With no such worker it is that error, whatever the thread is, and nothing is changed.
func TestClaimOfNoWorker(t *testing.T) {
	p, c := crowd(t, 6, 0, 1, 2, 3, 4)
	for _, workers := range []int{1, 2, 64} {
		s, m := sched.From(p, c, workers, 1), modelOf(p, c, workers, 1)
		for _, w := range outside(workers) {
			for _, n := range []int{0, 1, 4, 5, 6, -1, w} {
				isClaim(t, "no such worker", s, w, n, api.ErrRange)
			}
		}
		isModel(t, "no such worker", s, m)
	}
}

// Where one runs none can be claimed, not even itself, and those in the pool stay where they are.
func TestClaimWhereOneRuns(t *testing.T) {
	p, c := crowd(t, 6, 0, 1, 2, 3, 4)
	s := sched.From(p, c, 2, 1)
	isClaim(t, "the thread 0", s, 1, 0, api.OK)
	for n := -2; n < 8; n++ {
		isClaim(t, "where one runs", s, 1, n, api.ErrState)
		isAt(t, "where one runs", s, row(-1, 0), rows(nil, row(1)), 2, 3, 4)
	}
	isClaim(t, "at the other one", s, 0, 1, api.OK)
	isAt(t, "at the other one", s, row(1, 0), rows(nil, nil), 2, 3, 4)
}

// What is nowhere in the pool cannot be claimed: no thread, one that is not Ready, one that runs.
func TestClaimOfWhatIsNowhere(t *testing.T) {
	p, c := crowd(t, 6, 0, 2, 4)
	s := sched.From(p, c, 3, 1)
	isPick(t, "its own", s, 2, 0, result(sched.Took, 4))
	for _, n := range append([]int{-1, 1, 3, 4, 5, 6, 7, 32}, far...) {
		isClaim(t, "nowhere", s, 0, n, api.ErrState)
	}
	isAt(t, "nowhere", s, row(-1, -1, 4), rows(row(0), row(2), nil))
	p = program(t, in(api.Exit, 0))
	s = sched.New(p, 1, 1)
	isClaim(t, "it", s, 0, 0, api.OK)
	isPick(t, "its end", s, 0, 0, result(sched.Stepped, 0, ended(0, api.Fine)))
	isClaim(t, "one that is over", s, 0, 0, api.ErrState)
	isAt(t, "one that is over", s, free(1), rows(nil))
}

// A thread that is parked stands behind the others in the global queue, even if there is room in the deque; that is no move.
func TestPark(t *testing.T) {
	p, c := crowd(t, 5, 0, 1, 2, 3, 4)
	s := sched.From(p, c, 2, 2)
	isAt(t, "at first", s, free(2), rows(row(0, 2), row(1, 3)), 4)
	isPick(t, "its own", s, 1, 0, result(sched.Took, 3))
	isPick(t, "its own", s, 0, 0, result(sched.Took, 2))
	isPark(t, "it", s, 1, 3, api.OK)
	isAt(t, "it", s, row(2, -1), rows(row(0), row(1)), 4, 3)
	isPark(t, "none", s, 1, -1, api.OK)
	isAt(t, "none", s, row(2, -1), rows(row(0), row(1)), 4, 3)
	isPark(t, "the other one", s, 0, 2, api.OK)
	isPark(t, "none", s, 0, -1, api.OK)
	isAt(t, "both", s, free(2), rows(row(0), row(1)), 4, 3, 2)
	isMoves(t, "both", s)
	if !core.Same(s.Core(), c) {
		t.Errorf("the state is %v, not %v", s.Core(), c)
	}
	isPick(t, "its own", s, 1, 0, result(sched.Took, 1))
}

// The thread 0 is one like any other.
func TestParkOfTheThread0(t *testing.T) {
	s := sched.New(program(t, in(api.Exit, 0)), 1, 1)
	isPick(t, "it", s, 0, 0, result(sched.Took, 0))
	isPark(t, "it", s, 0, 0, api.OK)
	isAt(t, "it", s, free(1), rows(nil), 0)
	isPark(t, "none", s, 0, -1, api.OK)
	isPick(t, "it", s, 0, 0, result(sched.Took, 0))
	isPick(t, "its end", s, 0, 0, result(sched.Stepped, 0, ended(0, api.Fine)))
	isPark(t, "one that is over runs nowhere", s, 0, -1, api.OK)
	isAt(t, "one that is over", s, free(1), rows(nil))
}

func TestParkOfNoWorker(t *testing.T) {
	p, c := crowd(t, 4, 0, 1, 2)
	for _, workers := range []int{1, 2, 64} {
		s, m := sched.From(p, c, workers, 1), modelOf(p, c, workers, 1)
		s.Pick(0, 0)
		m.pick(t, 0, 0)
		for _, w := range outside(workers) {
			isPark(t, "no such worker", s, w, -1, api.ErrRange)
		}
		isModel(t, "no such worker", s, m)
	}
}
