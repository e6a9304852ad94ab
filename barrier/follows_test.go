package barrier_test

import (
	"fmt"
	"math/rand"
	"slices"
	"testing"

	"hibernacle/api"
	"hibernacle/barrier"
	"hibernacle/core"
	"hibernacle/fair"
	"hibernacle/follow"
	"hibernacle/sched"
)

// P15.3, T6

// model is a barrier as the chapter has it, beside a scheduler of its own; states that were marked are texts, a thread and a thing each.
type model struct {
	s       *sched.Sched
	asked   bool
	parked  map[int]bool
	epoch   int
	threads []string
	things  map[barrier.Thing]string
}

// modelOf is one of a scheduler that nothing else uses.
func modelOf(s *sched.Sched) *model {
	m := &model{s: s}
	m.threads, m.things = texts(s.Core())
	return m
}

// texts is all threads, and all things, of a state, each as a text.
func texts(c api.Core) ([]string, map[barrier.Thing]string) {
	var threads []string
	for _, x := range c.Threads {
		threads = append(threads, fmt.Sprint(x))
	}
	things := map[barrier.Thing]string{}
	for n := range c.Owners {
		things[mutex(n)] = fmt.Sprint(c.Owners[n], c.LockQ[n])
	}
	for n := range c.WaitQ {
		things[cond(n)] = fmt.Sprint(c.WaitQ[n])
	}
	for n := range c.Counts {
		things[sema(n)] = fmt.Sprint(c.Counts[n], c.DownQ[n])
	}
	for n := range c.Bufs {
		things[channel(n)] = fmt.Sprint(c.Bufs[n], c.SendQ[n], c.RecvQ[n])
	}
	return threads, things
}

// changed is what changed since the last mark: all threads, and all places of all kinds, are gone through.
func (m *model) changed() ([]int, []barrier.Thing) {
	threads, things := texts(m.s.Core())
	var l []int
	for i, x := range threads {
		if i >= len(m.threads) || m.threads[i] != x {
			l = append(l, i)
		}
	}
	var k []barrier.Thing
	for kind := range 4 {
		for n := range api.MaxThings {
			x := barrier.Thing{Kind: kind, N: n}
			if things[x] != m.things[x] {
				k = append(k, x)
			}
		}
	}
	return l, k
}

func (m *model) ask() bool {
	if m.asked {
		return false
	}
	m.asked, m.parked = true, map[int]bool{}
	return true
}

func (m *model) pick(w, n int) (sched.Result, api.Errno) {
	if w < 0 || w >= m.s.Workers() {
		return sched.Result{}, api.ErrRange
	}
	if !m.asked {
		return m.s.Pick(w, n)
	}
	if m.parked[w] {
		return result(sched.Idle, 0), api.OK
	}
	m.parked[w] = true
	t, e := m.s.Park(w)
	return result(sched.Parked, t), e
}

func (m *model) release() api.Errno {
	if !m.asked {
		return api.ErrState
	}
	m.asked, m.parked = false, nil
	return api.OK
}

func (m *model) mark() (int, api.Errno) {
	if !m.asked || len(m.parked) < m.s.Workers() {
		return 0, api.ErrState
	}
	m.epoch++
	m.threads, m.things = texts(m.s.Core())
	return m.epoch, api.OK
}

// isModel asks that a barrier is as its model, by all that it tells.
func isModel(t *testing.T, b *barrier.Barrier, m *model) {
	t.Helper()
	if m.asked {
		var parked []int
		for w := range m.parked {
			parked = append(parked, w)
		}
		isAsked(t, "by chance", b, parked...)
	} else {
		isFree(t, "by chance", b)
	}
	threads, things := m.changed()
	isChanged(t, "by chance", b, threads, things...)
	if b.Epoch() != m.epoch {
		t.Errorf("the epoch is %d, not %d", b.Epoch(), m.epoch)
	}
	if got, want := all(b.Sched()), all(m.s); got != want {
		t.Errorf("the scheduler is %s, not %s", got, want)
	}
}

// isCall is one call of some kind, of a worker and numbers by chance, and asks that it answers what the model does.
func isCall(t *testing.T, r *rand.Rand, b *barrier.Barrier, m *model) {
	t.Helper()
	workers := m.s.Workers()
	w, n := r.Intn(workers), r.Intn(4*workers)-2*workers
	if r.Intn(30) == 0 {
		l := outside(workers)
		w, n = l[r.Intn(len(l))], far[r.Intn(len(far))]
	}
	switch k := r.Intn(60); {
	case k < 6:
		want := m.s.Tick(n % 4)
		if got := b.Tick(n % 4); !slices.Equal(got, want) {
			t.Errorf("Tick(%d): %v, not %v", n%4, got, want)
		}
	case k < 8:
		isAsk(t, "by chance", b, m.ask())
	case k < 10:
		isRelease(t, "by chance", b, m.release())
	case k < 14:
		want, e := m.mark()
		isMark(t, "by chance", b, want, e)
	default:
		want, e := m.pick(w, n)
		if got, f := b.Pick(w, n); f != e || !sameResult(got, want) {
			t.Errorf("Pick(%d, %d): %v, error %d, not %v, %d", w, n, got, f, want, e)
		}
	}
}

// anyProgram is one that may be, of pieces that ask for things; few things, so that threads meet. Its last function wakes others on and on.
func anyProgram(t *testing.T, r *rand.Rand) api.Program {
	t.Helper()
	goesOn := in(api.Push, 77, api.Print, 0, api.Up, 0, api.Yield, 0, api.Broadcast, 0, api.Up, 1, api.Push, 1, api.Sleep, 0, api.Jump, 0)
	first := in(api.Spawn, 3, api.Pop, 0, api.Spawn, 1, api.Pop, 0, api.Spawn, 2, api.Pop, 0)
	p := program(t, slices.Concat(first, anyCode(r, len(first))), anyCode(r, 0), anyCode(r, 0), goesOn)
	p.Threads = 2 + r.Intn(12)
	return p
}

// anyCode is a function's, which goes round and round, from a place on.
func anyCode(r *rand.Rand, from int) []api.Instr {
	var l []api.Instr
	for range 1 + r.Intn(6) {
		n := r.Intn(50)
		l = append(l, oneOf(r,
			in(api.Push, n, api.Print, 0), in(api.Push, 1+n%5, api.Sleep, 0), in(api.Yield, 0), in(api.Call, 2), in(api.Ret, 0), in(api.Push, n, api.Set, 0),
			in(api.Spawn, n%3, api.Print, 0), in(api.Spawn, 1, api.Pop, 0), in(api.Spawn, 1, api.Join, 0, api.Print, 0),
			in(api.Lock, 1, api.Yield, 0, api.Unlock, 1), in(api.Lock, 1, api.Wait, 0, api.Unlock, 1), in(api.Signal, 0), in(api.Broadcast, 0),
			in(api.Down, n%2), in(api.Up, n%2), in(api.Push, n, api.Send, n%3), in(api.Recv, n%3, api.Print, 0), in(api.Select, n%2, api.Print, 0, api.Print, 0),
		)...)
	}
	return append(l, in(api.Jump, from)...)
}

// oneOf is one of some.
func oneOf(r *rand.Rand, l ...[]api.Instr) []api.Instr {
	return l[r.Intn(len(l))]
}

// Whatever is called, in whatever row, a barrier tells the same as its model.
func TestBarriersAreTheModel(t *testing.T) {
	r := rand.New(rand.NewSource(151))
	marks, moves := 0, 0
	for range 60 {
		p := anyProgram(t, r)
		workers, room := 1+r.Intn(5), 1+r.Intn(4)
		b, m := barrier.New(sched.New(p, workers, room)), modelOf(sched.New(p, workers, room))
		for range 250 {
			isCall(t, r, b, m)
			isModel(t, b, m)
			if t.Failed() {
				return
			}
		}
		marks, moves = marks+m.epoch, moves+len(m.s.Moves())
	}
	if marks < 60 || moves < 60*50 {
		t.Errorf("only %d marks, and %d moves, so that this test asks little", marks, moves)
	}
}

// While it is asked for no thread steps: the state is that ahead of it, but for the ticks.
func TestNoThreadStepsMeanwhile(t *testing.T) {
	r := rand.New(rand.NewSource(152))
	for workers := 1; workers <= api.MaxWorkers; workers++ {
		p := anyProgram(t, r)
		b := barrier.New(sched.New(p, workers, 1+r.Intn(8)))
		for range 4 {
			for range 100 {
				b.Pick(r.Intn(workers), r.Intn(100))
			}
			b.Ask()
			want, moves, seen := b.Core(), len(b.Moves()), len(b.Seen())
			ready := core.Ready(want)
			for range 3 * workers {
				b.Pick(r.Intn(workers), r.Intn(100))
				b.Ask()
				b.Mark()
				if n := r.Intn(20); n == 0 {
					want, _ = core.Tick(want, 1)
					b.Tick(1)
					moves++
				}
			}
			if got := b.Core(); !core.Same(got, want) || len(b.Moves()) != moves || len(b.Seen()) != seen {
				t.Fatalf("the state is %v, not %v; %d moves, not %d; %d events, not %d", got, want, len(b.Moves()), moves, len(b.Seen()), seen)
			}
			isPlaced(t, b.Sched())
			if now := core.Ready(b.Core()); len(now) < len(ready) {
				t.Fatalf("Ready are %v, not %v any more", now, ready)
			}
			b.Release()
		}
		if n, e := follow.Check(p, b.Moves(), b.Seen()); n != -1 || e != api.OK {
			t.Errorf("of %d workers: no trace at %d, error %d", workers, n, e)
		}
	}
}

// isPlaced asks that each thread that is Ready is in just one place, and nothing else is in any.
func isPlaced(t *testing.T, s *sched.Sched) {
	t.Helper()
	l := slices.Concat(s.Places()...)
	slices.Sort(l)
	if want := core.Ready(s.Core()); !slices.Equal(l, want) {
		t.Fatalf("in Places stand %v, Ready are %v", s.Places(), want)
	}
}

// Picks that are fair within n bring all to rest behind n of them, wherever in their midst it is asked for.
func TestDoneBehindFairPicks(t *testing.T) {
	r := rand.New(rand.NewSource(153))
	for range 200 {
		workers := 1 + r.Intn(api.MaxWorkers)
		if r.Intn(2) == 0 {
			workers = 1 + r.Intn(4)
		}
		l := fair.Turn(fair.Round(workers, 6), r.Intn(100))
		for range r.Intn(4 * workers) {
			l = slices.Insert(l, r.Intn(len(l)+1), r.Intn(workers))
		}
		least := fair.Least(l, workers)
		for range 8 {
			isDoneWithin(t, l[r.Intn(len(l)-least+1):], workers, least)
		}
	}
}

// isDoneWithin asks for a barrier, and that it is done behind at most so many picks of l, just when all workers are among them.
func isDoneWithin(t *testing.T, l []int, workers, most int) {
	t.Helper()
	b := barrier.New(crowd(t, 3, workers, 1))
	picks(b, l...)
	b.Ask()
	picked := map[int]bool{}
	for i, w := range l[:most] {
		b.Pick(w, i)
		picked[w] = true
		if b.Left() != workers-len(picked) || b.Done() != (len(picked) == workers) {
			t.Fatalf("behind %v of %d workers: Left %d, Done %v", l[:i+1], workers, b.Left(), b.Done())
		}
	}
	if !b.Done() {
		t.Fatalf("behind %v of %d workers it is not done", l[:most], workers)
	}
}

// Where one worker is never picked it stays asked for, however many picks and ticks there are; as soon as that one is picked it is done.
func TestPendingWithoutOneWorker(t *testing.T) {
	for _, workers := range row(1, 2, 3, 64) {
		for _, never := range row(0, workers/2, workers-1) {
			b := barrier.New(sleepers(t, workers, 9, 5, 700))
			b.Ask()
			for i := range 1000 {
				if w := i % workers; w != never {
					b.Pick(w, i)
				}
				isNoPick(t, "no worker", b, workers, i)
				b.Tick(1)
				isAsk(t, "pending", b, false)
				isMark(t, "pending", b, 0, api.ErrState)
				if b.Done() || b.Parked(never) || b.Left() < 1 {
					t.Fatalf("%d workers, without %d: Done %v, Left %d, Parked %v", workers, never, b.Done(), b.Left(), b.Parked(never))
				}
			}
			if b.Left() != 1 || len(b.Seen()) != 0 || len(b.Moves()) != 1000 {
				t.Errorf("%d workers, without %d: Left %d, seen %v", workers, never, b.Left(), b.Seen())
			}
			b.Pick(never, 0)
			if !b.Done() {
				t.Errorf("%d workers, and %d: it is not done", workers, never)
			}
			isMark(t, "done", b, 1, api.OK)
		}
	}
}

// Rests, wherever they come, take nothing away: each program that ends comes to its end, and what is seen is a trace of the model without workers.
func TestAllGoesOn(t *testing.T) {
	p := program(t,
		in(api.Spawn, 1, api.Spawn, 1, api.Spawn, 2, api.Join, 0, api.Pop, 0, api.Join, 0, api.Pop, 0, api.Join, 0, api.Print, 0, api.Exit, 0),
		in(api.Lock, 0, api.Yield, 0, api.Push, 3, api.Sleep, 0, api.Unlock, 0, api.Push, 7, api.Send, 0, api.Ret, 0),
		in(api.Recv, 0, api.Print, 0, api.Recv, 0, api.Print, 0, api.Pop, 0),
	)
	for workers := 1; workers <= api.MaxWorkers; workers++ {
		b := barrier.New(sched.New(p, workers, 1))
		rests := 0
		for i := 0; i < 1000 && !core.Over(b.Core()); i++ {
			for w := range workers {
				b.Pick(w, w+i+1)
			}
			b.Tick(1)
			if i%3 == 2 {
				remark(t, b)
				rests++
			}
		}
		if !core.Over(b.Core()) || b.Epoch() != rests || rests < 3 {
			t.Errorf("%d workers, %d rests: it came to %v", workers, rests, b.Places())
		}
		if got := follow.Out(b.Seen(), 3); !slices.Equal(got, row(7, 7)) {
			t.Errorf("%d workers: 3 printed %v", workers, got)
		}
		if n, e := follow.Check(p, b.Moves(), b.Seen()); n != -1 || e != api.OK {
			t.Errorf("%d workers: no trace at %d, error %d", workers, n, e)
		}
	}
}

// Calls at random, of odd numbers, on what may not be, end and do not panic.
func TestNothingPanics(t *testing.T) {
	r := rand.New(rand.NewSource(154))
	odd := func() int { return append(row(0, 1, 2, 3), far...)[r.Intn(4+len(far))] }
	list := func() []int {
		var l []int
		for range r.Intn(3) {
			l = append(l, odd())
		}
		return l
	}
	lists := func() [][]int { return [][]int{list(), list()}[:r.Intn(3)] }
	state := func() api.Core {
		c := api.Core{Now: odd(), Owners: list(), Counts: list(), Bufs: lists(), LockQ: lists(), WaitQ: lists(), DownQ: lists(), SendQ: lists(), RecvQ: lists()}
		for range r.Intn(4) {
			x := api.Thread{State: r.Intn(11) - 1, On: odd(), Stack: list(), Code: odd()}
			for range r.Intn(2) {
				x.Frames = append(x.Frames, api.Frame{Func: r.Intn(3) - 1, Pc: r.Intn(4) - 1, Locals: list()})
			}
			c.Threads = append(c.Threads, x)
		}
		return c
	}
	for range 2000 {
		was, now := state(), state()
		barrier.Between(was, now)
		p := api.Program{Mutexes: r.Intn(3) - 1, Conds: list(), Semas: list(), Chans: list(), Threads: odd(), Funcs: []api.Func{{Locals: 1, Code: in(r.Intn(29)-1, odd())}}}
		b := barrier.New(sched.From(p, was, odd(), odd()))
		for range 20 {
			b.Pick(odd(), odd())
			b.Tick(odd())
			b.Parked(odd())
			b.Left()
			b.Threads()
			b.Things()
			switch r.Intn(6) {
			case 0:
				b.Ask()
			case 1:
				b.Mark()
			case 2:
				b.Release()
			}
		}
	}
}
