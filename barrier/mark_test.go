package barrier_test

import (
	"testing"

	"hibernacle/api"
	"hibernacle/barrier"
	"hibernacle/sched"
)

// P15.2: Release, Mark, Epoch, Threads, Things, Sched

// It is asked for no more, and none is parked, however many were; without Ask there is nothing to release.
func TestRelease(t *testing.T) {
	b := barrier.New(crowd(t, 4, 3, 1))
	isRelease(t, "not asked for", b, api.ErrState)
	isFree(t, "not asked for", b)
	for _, l := range [][]int{nil, row(1), row(0, 2), row(0, 1, 2)} {
		b.Ask()
		picks(b, l...)
		isAsked(t, "asked for", b, l...)
		isRelease(t, "asked for", b, api.OK)
		isFree(t, "released", b)
		isRelease(t, "released", b, api.ErrState)
		isFree(t, "released", b)
	}
	b.Ask()
	isAsked(t, "anew", b)
}

// What is released goes on: workers take what is in the pool.
func TestReleasedGoesOn(t *testing.T) {
	s := crowd(t, 2, 2, 1)
	b := barrier.New(s)
	picks(b, 0, 1, 0, 1)
	rest(t, b)
	isPool(t, "all rest", s, row(-1, -1), 0, 1)
	b.Release()
	isPool(t, "released", s, row(-1, -1), 0, 1)
	isPick(t, "released", b, 1, 0, result(sched.Took, 0))
	isPick(t, "released", b, 1, 0, result(sched.Stepped, 0, api.Event{Kind: api.Printed, Thread: 0, N: 1}))
	isPick(t, "released", b, 0, 0, result(sched.Took, 1))
	isPick(t, "released", b, 0, 0, result(sched.Stepped, 1, api.Event{Kind: api.Printed, Thread: 1, N: 1}))
}

// Only while it is done there is a mark; else nothing is changed.
func TestMark(t *testing.T) {
	b := barrier.New(crowd(t, 2, 2, 1))
	not := func(name string, epoch int, changed ...int) {
		t.Helper()
		isMark(t, name, b, 0, api.ErrState)
		isChanged(t, name, b, changed)
		if b.Epoch() != epoch {
			t.Errorf("%s: the epoch is %d, not %d", name, b.Epoch(), epoch)
		}
	}
	not("at first", 0)
	picks(b, 1, 1)
	not("not asked for", 0, 1)
	b.Ask()
	not("asked for", 0, 1)
	b.Pick(0, 0)
	not("one is parked", 0, 1)
	b.Pick(1, 0)
	for epoch := 1; epoch < 4; epoch++ {
		isMark(t, "done", b, epoch, api.OK)
		isAsked(t, "done", b, 0, 1)
		isChanged(t, "done", b, nil)
		if b.Epoch() != epoch {
			t.Errorf("the epoch is %d, not %d", b.Epoch(), epoch)
		}
	}
	b.Release()
	not("released", 3)
	picks(b, 0, 0)
	not("one stepped", 3, 0)
	b.Ask()
	not("asked for anew", 3, 0)
	picks(b, 0, 1)
	isMark(t, "done anew", b, 4, api.OK)
	isChanged(t, "done anew", b, nil)
}

// A mark is no move, and parks none, and lets none go.
func TestMarkIsNoMove(t *testing.T) {
	s := crowd(t, 5, 2, 1)
	b := barrier.New(s)
	picks(b, 0, 1, 0, 1)
	rest(t, b)
	was := all(s)
	b.Mark()
	b.Mark()
	if got := all(s); got != was {
		t.Errorf("the scheduler is %s, not %s", got, was)
	}
	isAsked(t, "a mark", b, 0, 1)
}

// What changed is told from the last mark on, not from the one ahead of it, and whatever happens to be asked for.
func TestChangedSinceTheLastMark(t *testing.T) {
	b := barrier.New(crowd(t, 4, 4, 1))
	picks(b, 0, 1, 2, 3, 2, 2)
	isChanged(t, "since the beginning", b, row(2))
	picks(b, 0)
	isChanged(t, "since the beginning", b, row(0, 2))
	rest(t, b)
	isChanged(t, "at rest", b, row(0, 2))
	b.Mark()
	isChanged(t, "marked", b, nil)
	b.Release()
	isChanged(t, "released", b, nil)
	picks(b, 3, 3)
	isChanged(t, "since the mark", b, row(0))
	rest(t, b)
	isChanged(t, "at rest", b, row(0))
	b.Release()
	isChanged(t, "released without a mark", b, row(0))
}

// What is as it was did not change, whatever it was meanwhile.
func TestWhatIsAsItWas(t *testing.T) {
	round := in(api.Lock, 0, api.Unlock, 0, api.Up, 1, api.Down, 1, api.Push, 5, api.Send, 1, api.Recv, 1, api.Pop, 0, api.Jump, 0)
	b := barrier.New(sched.New(program(t, round), 1, 1))
	b.Pick(0, 0)
	for i, want := range [][]barrier.Thing{
		{mutex(0)}, {}, {sema(1)}, {}, {}, {channel(1)}, {}, {},
	} {
		b.Pick(0, 0)
		isChanged(t, "a step", b, row(0), want...)
		if t.Failed() {
			t.Fatalf("by the step %d", i)
		}
	}
	b.Pick(0, 0)
	isChanged(t, "at the beginning again", b, nil)
}

// Each kind of request changes the threads, and the things, that it has to do with.
func TestChangedByRequests(t *testing.T) {
	for name, x := range map[string]struct {
		code    []api.Instr
		steps   int
		threads []int
		things  []barrier.Thing
	}{
		"a number":        {in(api.Push, 3), 1, row(0), nil},
		"a print":         {in(api.Push, 3, api.Print, 0), 2, row(0), nil},
		"a yield":         {in(api.Yield, 0), 1, row(0), nil},
		"a jump to where": {in(api.Jump, 0), 1, nil, nil},
		"an end":          {in(api.Exit, 0), 1, row(0), nil},
		"a spawn":         {in(api.Spawn, 0), 1, row(0, 1), nil},
		"a sleep":         {in(api.Push, 3, api.Sleep, 0), 2, row(0), nil},
		"a lock":          {in(api.Lock, 1), 1, row(0), []barrier.Thing{mutex(1)}},
		"a lock anew":     {in(api.Lock, 1, api.Lock, 1), 2, row(0), []barrier.Thing{mutex(1)}},
		"two locks":       {in(api.Lock, 1, api.Lock, 0), 2, row(0), []barrier.Thing{mutex(0), mutex(1)}},
		"a wait":          {in(api.Lock, 1, api.Wait, 2), 2, row(0), []barrier.Thing{cond(2)}},
		"a down":          {in(api.Down, 1), 1, row(0), []barrier.Thing{sema(1)}},
		"a down that waits": {
			in(api.Down, 0), 1, row(0), []barrier.Thing{sema(0)}},
		"an up":             {in(api.Up, 0), 1, row(0), []barrier.Thing{sema(0)}},
		"a send":            {in(api.Push, 0, api.Send, 2), 2, row(0), []barrier.Thing{channel(2)}},
		"a send that waits": {in(api.Push, 0, api.Send, 0), 2, row(0), []barrier.Thing{channel(0)}},
		"a recv":            {in(api.Recv, 1), 1, row(0), []barrier.Thing{channel(1)}},
		"a choice":          {in(api.Select, 0), 1, row(0), []barrier.Thing{channel(0), channel(2)}},
		"all kinds": {
			in(api.Up, 1, api.Push, 0, api.Send, 1, api.Lock, 0, api.Lock, 1, api.Wait, 0), 6, row(0),
			[]barrier.Thing{mutex(0), cond(0), sema(1), channel(1)}},
	} {
		b := barrier.New(sched.New(program(t, x.code), 2, 1))
		b.Pick(0, 0)
		isChanged(t, name+", ahead of it", b, nil)
		for range x.steps {
			b.Pick(0, 0)
		}
		isChanged(t, name, b, x.threads, x.things...)
		remark(t, b)
		isChanged(t, name+", marked", b, nil)
	}
}

// A request that another thread waits for changes that one, too, and the thing for which it waits.
func TestChangedByWhatAnotherOneDoes(t *testing.T) {
	for name, x := range map[string]struct {
		first, then []api.Instr
		steps       int
		threads     []int
		things      []barrier.Thing
	}{
		"an end that is joined": {in(api.Push, 1, api.Join, 0), in(api.Exit, 0), 1, row(0, 1), nil},
		"an up":                 {in(api.Down, 0), in(api.Up, 0), 1, row(0, 1), []barrier.Thing{sema(0)}},
		"a send":                {in(api.Recv, 0), in(api.Push, 7, api.Send, 0), 2, row(0, 1), []barrier.Thing{channel(0)}},
		"a send to a choice":    {in(api.Select, 0), in(api.Push, 7, api.Send, 2), 2, row(0, 1), []barrier.Thing{channel(0), channel(2)}},
		"a recv":                {in(api.Push, 7, api.Send, 0), in(api.Recv, 0), 1, row(0, 1), []barrier.Thing{channel(0)}},
		"a signal":              {in(api.Lock, 1, api.Wait, 0), in(api.Signal, 0), 1, row(0, 1), []barrier.Thing{mutex(1), cond(0)}},
		"a signal of a locked one": {
			in(api.Lock, 1, api.Wait, 2), in(api.Lock, 1, api.Broadcast, 2), 2, row(0, 1), []barrier.Thing{mutex(1), cond(2)}},
		"a signal to none": {in(api.Lock, 1, api.Wait, 2), in(api.Signal, 1), 1, row(1), nil},
	} {
		p := program(t, x.first, x.then)
		s := sched.From(p, stand(p, 0, 1), 2, 1)
		b := barrier.New(s)
		picks(b, 0, 0, 0)
		remark(t, b)
		isChanged(t, name+", ahead of it", b, nil)
		if e := s.Claim(1, 1); e != api.OK {
			t.Fatalf("%s: Claim: error %d", name, e)
		}
		for range x.steps {
			b.Pick(1, 0)
		}
		isChanged(t, name, b, x.threads, x.things...)
	}
}

// Ticks change those that are woken, whether it is asked for or not; the tick itself is no thread, and no thing.
func TestChangedByTicks(t *testing.T) {
	s := sleepers(t, 1, 9, 2, 2, 4)
	b := barrier.New(s)
	b.Tick(1)
	isChanged(t, "none is woken", b, nil)
	b.Tick(1)
	isChanged(t, "some are woken", b, row(1, 2))
	rest(t, b)
	s.Tick(2)
	isChanged(t, "one more", b, row(1, 2, 3))
	b.Mark()
	isChanged(t, "marked", b, nil)
	b.Tick(4)
	isChanged(t, "none is woken", b, nil)
	b.Tick(1)
	isChanged(t, "the last one", b, row(0))
}

// Threads that end are told as any others, and so are those that were spawned since, as their numbers rise.
func TestChangedThreadsRise(t *testing.T) {
	p := program(t, in(api.Spawn, 1, api.Spawn, 1, api.Spawn, 1, api.Jump, 3), in(api.Exit, 0))
	b := barrier.New(sched.New(p, 1, 8))
	picks(b, 0, 0)
	remark(t, b)
	picks(b, 0, 0)
	isChanged(t, "one ended", b, row(1))
	picks(b, 0, 0, 0)
	isChanged(t, "two spawned", b, row(0, 1, 2, 3))
	remark(t, b)
	picks(b, 0, 0)
	isChanged(t, "another one ended", b, row(3))
	picks(b, 0, 0)
	isChanged(t, "all the others ended", b, row(2, 3))
	picks(b, 0, 0, 0)
	isChanged(t, "the first one goes round", b, row(2, 3))
}
