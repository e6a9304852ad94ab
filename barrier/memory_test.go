package barrier_test

import (
	"slices"
	"testing"

	"hibernacle/api"
	"hibernacle/barrier"
	"hibernacle/core"
	"hibernacle/sched"
)

// R4, of what is handed in, kept and answered

// listsOf is each list of numbers of a state.
func listsOf(c *api.Core) []*[]int {
	l := []*[]int{&c.Owners, &c.Counts}
	for _, rows := range [][][]int{c.Bufs, c.LockQ, c.WaitQ, c.DownQ, c.SendQ, c.RecvQ} {
		for i := range rows {
			l = append(l, &rows[i])
		}
	}
	for i := range c.Threads {
		l = append(l, &c.Threads[i].Stack)
		for j := range c.Threads[i].Frames {
			l = append(l, &c.Threads[i].Frames[j].Locals)
		}
	}
	return l
}

// over writes v over all of a list, spare room too.
func over[T any](l []T, v T) {
	l = l[:cap(l)]
	for i := range l {
		l[i] = v
	}
}

// scratch writes over all numbers of a state, its rows and threads, the innermost first.
func scratch(c api.Core) {
	for _, l := range listsOf(&c) {
		over(*l, mark)
	}
	for _, rows := range [][][]int{c.Bufs, c.LockQ, c.WaitQ, c.DownQ, c.SendQ, c.RecvQ} {
		over(rows, row(mark))
	}
	over(c.Threads, api.Thread{State: mark})
}

// busy is a program whose threads have to do with all kinds of things, and sleep.
func busy(t *testing.T) api.Program {
	t.Helper()
	return program(t,
		in(api.Spawn, 1, api.Print, 0, api.Spawn, 2, api.Print, 0, api.Spawn, 3, api.Print, 0, api.Call, 3),
		in(api.Lock, 1, api.Wait, 0, api.Unlock, 1, api.Down, 0, api.Push, 4, api.Send, 0, api.Push, 6, api.Send, 2, api.Jump, 0),
		in(api.Recv, 0, api.Print, 0, api.Select, 0, api.Print, 0, api.Print, 0, api.Jump, 0),
		in(api.Push, 1, api.Set, 0, api.Get, 0, api.Print, 0, api.Yield, 0, api.Broadcast, 0, api.Up, 0, api.Push, 1, api.Sleep, 0, api.Jump, 2),
	)
}

// The states that Between is handed stay as they are, the room behind their lists too.
func TestBetweenChangesNothing(t *testing.T) {
	was, now := full(t), full(t)
	now.Owners[1], now.SendQ[0], now.Threads[0].On = 0, nil, 3
	for _, c := range []*api.Core{&was, &now} {
		for _, l := range listsOf(c) {
			roomy := append(make([]int, 0, len(*l)+3), *l...)
			over(roomy[len(roomy):], mark)
			*l = roomy
		}
	}
	keptWas, keptNow := core.Clone(was), core.Clone(now)
	threads, things := barrier.Between(was, now)
	over(threads, mark)
	over(things, barrier.Thing{Kind: mark})
	if !core.Same(was, keptWas) || !core.Same(now, keptNow) {
		t.Errorf("%v, %v, not %v, %v", was, now, keptWas, keptNow)
	}
	for _, c := range []*api.Core{&was, &now} {
		for _, l := range listsOf(c) {
			if !slices.Equal((*l)[len(*l):cap(*l)], row(mark, mark, mark)) {
				t.Errorf("the room behind %v is %v", *l, (*l)[:cap(*l)])
			}
		}
	}
	isBetween(t, "again", was, now, row(0), mutex(1), channel(0))
}

// What is answered is new: a barrier is as it was, whatever is written there, and what it answered stays.
func TestAnswersAreNew(t *testing.T) {
	b, same := barrier.New(sched.New(busy(t), 2, 1)), barrier.New(sched.New(busy(t), 2, 1))
	for i := range 600 {
		threads, things := same.Threads(), same.Things()
		isChanged(t, "answers written over", b, threads, things...)
		over(b.Threads(), mark)
		over(b.Things(), barrier.Thing{Kind: mark})
		scratch(b.Core())
		kept, keptThings := b.Threads(), b.Things()
		for _, x := range []*barrier.Barrier{b, same} {
			r, _ := x.Pick(i%2, i/3)
			over(r.Seen, api.Event{Kind: mark})
			x.Tick(i % 5 / 4)
			if i%40 == 39 {
				remark(t, x)
			}
		}
		if !slices.Equal(kept, threads) || !slices.Equal(keptThings, things) {
			t.Fatalf("what was answered ahead of the pick %d is %v, %v, not %v, %v", i, kept, keptThings, threads, things)
		}
	}
}

// Barriers have nothing to do with one another.
func TestBarriersAreTheirOwn(t *testing.T) {
	a, b := barrier.New(crowd(t, 2, 2, 1)), barrier.New(crowd(t, 2, 2, 1))
	picks(a, 0, 0)
	rest(t, a)
	a.Mark()
	isFree(t, "the other one", b)
	isChanged(t, "the other one", b, nil)
	isAsk(t, "the other one", b, true)
	isAsked(t, "the other one", b)
	if a.Epoch() != 1 || b.Epoch() != 0 {
		t.Errorf("the epochs are %d and %d", a.Epoch(), b.Epoch())
	}
	isAsked(t, "the first one", a, 0, 1)
}
