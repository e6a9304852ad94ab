package sched_test

import (
	"testing"

	"hibernacle/api"
	"hibernacle/core"
	"hibernacle/sched"
	"hibernacle/stack"
)

// P13.1: From, New

func TestNew(t *testing.T) {
	p := program(t, in(api.Push, 5, api.Print, 0, api.Exit, 0))
	for _, workers := range []int{1, 2, 3, 63, 64} {
		s := sched.New(p, workers, 2)
		own := make([][]int, workers)
		own[0] = row(0)
		isAt(t, "New", s, free(workers), own)
		isMoves(t, "New", s)
		if len(s.Seen()) != 0 || !core.Same(s.Core(), core.New(p)) {
			t.Errorf("New: %v was seen, the state is %v", s.Seen(), s.Core())
		}
	}
}

// Those that are Ready are dealt out by where they stand among these, not by their numbers.
func TestFromDealsOutThoseThatAreReady(t *testing.T) {
	for _, x := range []struct {
		name          string
		n             int
		ready         []int
		workers, room int
		own           [][]int
		global        []int
	}{
		{"none", 3, nil, 2, 2, rows(nil, nil), nil},
		{"no thread at all", 0, nil, 1, 1, rows(nil), nil},
		{"one worker", 4, row(0, 1, 2, 3), 1, 8, rows(row(0, 1, 2, 3)), nil},
		{"one worker with less room", 4, row(0, 1, 2, 3), 1, 2, rows(row(0, 1)), row(2, 3)},
		{"more workers than threads", 2, row(0, 1), 3, 1, rows(row(0), row(1), nil), nil},
		{"round", 5, row(0, 1, 2, 3, 4), 2, 8, rows(row(0, 2, 4), row(1, 3)), nil},
		{"round, without room", 7, row(0, 1, 2, 3, 4, 5, 6), 3, 1, rows(row(0), row(1), row(2)), row(3, 4, 5, 6)},
		{"odd ones", 6, row(1, 3, 5), 2, 8, rows(row(1, 5), row(3)), nil},
		{"some, without room", 8, row(1, 2, 5, 6, 7), 2, 1, rows(row(1), row(2)), row(5, 6, 7)},
		{"the last one", 4, row(3), 2, 1, rows(row(3), nil), nil},
	} {
		p, c := crowd(t, x.n, x.ready...)
		s := sched.From(p, c, x.workers, x.room)
		isAt(t, x.name, s, free(x.workers), x.own, x.global...)
		isMoves(t, x.name, s)
		if len(s.Seen()) != 0 || !core.Same(s.Core(), c) {
			t.Errorf("%s: %v was seen, the state is %v, not %v", x.name, s.Seen(), s.Core(), c)
		}
	}
}

// As many as a program may have, on all numbers of workers and rooms.
func TestFromOfAllWorkersAndRooms(t *testing.T) {
	all := make([]int, api.MaxThreads)
	for i := range all {
		all[i] = i
	}
	p, c := crowd(t, len(all), all...)
	for workers := 1; workers <= api.MaxWorkers; workers++ {
		for room := 1; room <= api.MaxDeque; room++ {
			own, global := make([][]int, workers), []int(nil)
			for i := range all {
				if w := i % workers; len(own[w]) < room {
					own[w] = append(own[w], i)
				} else {
					global = append(global, i)
				}
			}
			isAt(t, "From", sched.From(p, c, workers, room), free(workers), own, global...)
		}
	}
}

// Of workers and rooms that there may not be the nearer numbers are kept, as in a pool.
func TestWorkersAndRoomAreThePools(t *testing.T) {
	p, c := crowd(t, 20, 0, 1, 2, 3, 4, 5, 6, 7, 8, 9, 10, 11)
	for _, n := range append([]int{-1, 0, 1, 2, 8, 9, 64, 65, 66, 128}, far...) {
		workers, room := min(max(n, 1), 64), min(max(n, 1), 8)
		isModel(t, "workers", sched.From(p, c, n, 1), modelOf(p, c, workers, 1))
		isModel(t, "room", sched.From(p, c, 1, n), modelOf(p, c, 1, room))
		isModel(t, "both", sched.From(p, c, n, n), modelOf(p, c, workers, room))
		isModel(t, "New", sched.New(p, n, n), modelOf(p, core.New(p), workers, room))
	}
}

// Threads in each state but Ready are nowhere, whatever they wait for.
func TestFromOfAllStates(t *testing.T) {
	p := program(t, in(api.Exit, 0))
	for state := range api.States {
		c := stand(p, 0, 0, 0)
		c.Threads[1].State = state
		if state == api.Dead {
			c.Threads[1] = stack.End(c.Threads[1], api.Wrong)
		}
		own := rows(row(0), row(2))
		if state == api.Ready {
			own = rows(row(0, 2), row(1))
		}
		isAt(t, "a state", sched.From(p, c, 2, 8), free(2), own)
	}
}

// What went ahead of the state is nowhere to be seen, and what goes then is.
func TestFromAStateThatGoesOn(t *testing.T) {
	p := program(t, in(api.Push, 5, api.Print, 0, api.Exit, 0))
	c, _, _, _ := core.Step(p, core.New(p), 0)
	c, _ = core.Tick(c, 7)
	s := sched.From(p, c, 1, 1)
	isPick(t, "from a state", s, 0, 0, result(sched.Took, 0))
	isMoves(t, "from a state", s)
	isPick(t, "from a state", s, 0, 0, result(sched.Stepped, 0, printed(0, 5)))
	isPick(t, "from a state", s, 0, 0, result(sched.Stepped, 0, ended(0, api.Fine)))
	isMoves(t, "from a state", s, steps(0, 0))
	if c := s.Core(); c.Now != 7 || !core.Over(c) {
		t.Errorf("from a state: %v", c)
	}
}
