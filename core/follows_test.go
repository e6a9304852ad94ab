package core_test

import (
	"cmp"
	"math/rand"
	"slices"
	"strconv"
	"testing"

	"hibernacle/api"
	"hibernacle/code"
	"hibernacle/core"
	"hibernacle/stack"
	"hibernacle/vm"
)

// A member is a thread of a model: what it is, when it came to wait (the later, the greater), and what it waits to send.
type member struct {
	api.Thread
	since, sends int
}

// model is a state as the chapter has it, without any row: who waits for a thing is told by the threads alone, and their row by when they came to wait. It leans on chapter 5 for what an instruction does to its thread, and on nothing else of the program.
type model struct {
	p              api.Program
	now, clock     int
	threads        []*member
	owners, counts []int
	lies           [][]int
	seen           []api.Event
	woken          []int
}

// fresh is a program's first model.
func fresh(p api.Program) *model {
	m := &model{p: p, counts: slices.Clone(p.Semas), lies: make([][]int, len(p.Chans))}
	for range p.Mutexes {
		m.owners = append(m.owners, -1)
	}
	m.born(0)
	return m
}

// born is a thread more.
func (m *model) born(f int) {
	frame := api.Frame{Func: f, Locals: make([]int, m.p.Funcs[f].Locals)}
	m.threads = append(m.threads, &member{Thread: api.Thread{Frames: []api.Frame{frame}}})
}

// waiting is who is asked for, in the row in which they came to wait.
func (m *model) waiting(asked func(x *member) bool) []int {
	var l []int
	for t, x := range m.threads {
		if asked(x) {
			l = append(l, t)
		}
	}
	slices.SortFunc(l, func(a, b int) int { return cmp.Compare(m.threads[a].since, m.threads[b].since) })
	return l
}

// in is who is in a state, on a thing.
func (m *model) in(state, on int) []int {
	return m.waiting(func(x *member) bool { return x.State == state && x.On == on })
}

// receivers is who waits to receive from a channel, by itself or by a choice.
func (m *model) receivers(ch int) []int {
	return m.waiting(func(x *member) bool {
		return x.State == api.Receiving && x.On == ch || x.State == api.Selecting && slices.Contains(m.p.Choices[x.On], ch)
	})
}

// core is the state of a model: each that waits stands in just the rows that its State and On tell.
func (m *model) core() api.Core {
	c := api.Core{Now: m.now, Owners: m.owners, Counts: m.counts, Bufs: m.lies}
	for _, x := range m.threads {
		c.Threads = append(c.Threads, x.Thread)
	}
	for i := range m.owners {
		c.LockQ = append(c.LockQ, m.in(api.Locking, i))
	}
	for i := range m.p.Conds {
		c.WaitQ = append(c.WaitQ, m.in(api.Waiting, i))
	}
	for i := range m.counts {
		c.DownQ = append(c.DownQ, m.in(api.Downing, i))
	}
	for i := range m.lies {
		var pairs []int
		for _, t := range m.in(api.Sending, i) {
			pairs = append(pairs, t, m.threads[t].sends)
		}
		c.SendQ, c.RecvQ = append(c.SendQ, pairs), append(c.RecvQ, m.receivers(i))
	}
	return copied(c)
}

// wait lets a thread wait, behind all that wait already.
func (m *model) wait(t, state, on int) {
	m.clock++
	m.threads[t].State, m.threads[t].On, m.threads[t].since = state, on, m.clock
}

// wake lets a thread go on.
func (m *model) wake(t int) {
	m.threads[t].State, m.threads[t].On = api.Ready, 0
	m.woken = append(m.woken, t)
}

// wakeFirst lets the first one of a row go on: who it is, and whether there is one.
func (m *model) wakeFirst(l []int) (int, bool) {
	if len(l) == 0 {
		return -1, false
	}
	m.wake(l[0])
	return l[0], true
}

// A told is a thread that is told a number because another one is over.
type told struct{ t, code int }

// over ends a thread, and goes on with who joined it, by a pile of those that are not told yet.
func (m *model) over(t, code int) {
	m.threads[t].Thread = api.Thread{State: api.Dead, Code: code}
	m.seen = append(m.seen, api.Event{Kind: api.Ended, Thread: t, N: code})
	pile := m.joined(t, code)
	for len(pile) > 0 {
		first := pile[0]
		pile = pile[1:]
		m.wake(first.t)
		if !m.push(first.t, first.code) {
			m.threads[first.t].Thread = api.Thread{State: api.Dead, Code: api.Over}
			m.seen = append(m.seen, api.Event{Kind: api.Ended, Thread: first.t, N: api.Over})
			pile = append(m.joined(first.t, api.Over), pile...)
		}
	}
}

// joined is who joined a thread, as their numbers rise.
func (m *model) joined(t, code int) []told {
	l := m.in(api.Joining, t)
	slices.Sort(l)
	var pile []told
	for _, t := range l {
		pile = append(pile, told{t, code})
	}
	return pile
}

// push puts numbers on a thread's stack, if there is room for all.
func (m *model) push(t int, l ...int) bool {
	x := m.threads[t]
	if len(x.Stack)+len(l) > 16 {
		return false
	}
	x.Stack = slices.Concat(x.Stack, l)
	return true
}

// tell hands numbers to a thread, or ends it.
func (m *model) tell(t int, l ...int) {
	if !m.push(t, l...) {
		m.over(t, api.Over)
	}
}

// handOn hands a mutex on.
func (m *model) handOn(i int) {
	m.owners[i], _ = m.wakeFirst(m.in(api.Locking, i))
}

// letGo lets one go that waits for a condition.
func (m *model) letGo(t, mutex int) {
	if m.owners[mutex] != -1 {
		m.wait(t, api.Locking, mutex)
		return
	}
	m.owners[mutex] = t
	m.wake(t)
}

// step is a thread's step: what it asked for.
func (m *model) step(t int) vm.Request {
	m.seen, m.woken = nil, nil
	x := m.threads[t]
	var r vm.Request
	x.Thread, r = vm.Step(m.p, x.Thread)
	switch r.Kind {
	case vm.Lock, vm.Unlock, vm.Wait, vm.Signal, vm.Broadcast, vm.Down, vm.Up:
		m.meetLocks(t, r)
	case vm.Send, vm.Recv, vm.Select:
		m.meetChans(t, r)
	default:
		m.meetOthers(t, r)
	}
	// Who is over by now does not count as woken.
	m.woken = slices.DeleteFunc(m.woken, func(t int) bool { return m.threads[t].State != api.Ready })
	return r
}

func (m *model) meetOthers(t int, r vm.Request) {
	switch r.Kind {
	case vm.End:
		m.over(t, r.V)
	case vm.Print:
		m.seen = append(m.seen, api.Event{Kind: api.Printed, Thread: t, N: r.V})
	case vm.Spawn:
		n := -1
		if len(m.threads) != m.p.Threads {
			n = len(m.threads)
			m.born(r.A)
			m.woken = append(m.woken, n)
		}
		m.seen = append(m.seen, api.Event{Kind: api.Spawned, Thread: t, N: n})
		m.tell(t, n)
	case vm.Sleep:
		if tick := min(m.now+r.V, most); tick > m.now {
			m.wait(t, api.Sleeping, tick)
		}
	case vm.Join:
		if r.V < 0 || r.V >= len(m.threads) || r.V == t {
			m.over(t, api.BadJoin)
		} else if x := m.threads[r.V]; x.State == api.Dead {
			m.tell(t, x.Code)
		} else {
			m.wait(t, api.Joining, r.V)
		}
	}
}

func (m *model) meetLocks(t int, r vm.Request) {
	a := r.A
	switch r.Kind {
	case vm.Lock:
		if m.owners[a] == -1 {
			m.owners[a] = t
		} else {
			m.wait(t, api.Locking, a)
		}
	case vm.Unlock:
		if m.owners[a] != t {
			m.over(t, api.Wrong)
		} else {
			m.handOn(a)
		}
	case vm.Wait:
		if m.owners[m.p.Conds[a]] != t {
			m.over(t, api.Wrong)
		} else {
			m.handOn(m.p.Conds[a])
			m.wait(t, api.Waiting, a)
		}
	case vm.Signal, vm.Broadcast:
		l := m.in(api.Waiting, a)
		if r.Kind == vm.Signal {
			l = l[:min(len(l), 1)]
		}
		for _, t := range l {
			m.letGo(t, m.p.Conds[a])
		}
	case vm.Down:
		if m.counts[a] == 0 {
			m.wait(t, api.Downing, a)
		} else {
			m.counts[a]--
		}
	case vm.Up:
		if _, ok := m.wakeFirst(m.in(api.Downing, a)); !ok {
			m.counts[a]++
		}
	}
}

func (m *model) meetChans(t int, r vm.Request) {
	switch r.Kind {
	case vm.Send:
		m.send(t, r.A, r.V)
	case vm.Recv:
		v, from, ok := m.take(r.A)
		if !ok {
			m.wait(t, api.Receiving, r.A)
			return
		}
		m.tell(t, v)
		m.wakeFirst(from)
	case vm.Select:
		for i, ch := range m.p.Choices[r.A] {
			if v, from, ok := m.take(ch); ok {
				m.tell(t, v, i)
				m.wakeFirst(from)
				return
			}
		}
		m.wait(t, api.Selecting, r.A)
	}
}

// send sends a number, or waits to.
func (m *model) send(t, ch, v int) {
	l := m.receivers(ch)
	switch {
	case len(l) > 0:
		x := m.threads[l[0]]
		state, on := x.State, x.On
		m.wake(l[0])
		if state == api.Selecting {
			m.tell(l[0], v, slices.Index(m.p.Choices[on], ch))
		} else {
			m.tell(l[0], v)
		}
	case len(m.lies[ch]) < m.p.Chans[ch]:
		m.lies[ch] = append(m.lies[ch], v)
	default:
		m.threads[t].sends = v
		m.wait(t, api.Sending, ch)
	}
}

// take takes the first number of a channel, and tells who is to be woken by that: the first one that waited to send, whose number is in the channel then.
func (m *model) take(ch int) (int, []int, bool) {
	from := m.in(api.Sending, ch)
	from = from[:min(len(from), 1)]
	for _, t := range from {
		m.lies[ch] = append(m.lies[ch], m.threads[t].sends)
	}
	if len(m.lies[ch]) == 0 {
		return 0, nil, false
	}
	v := m.lies[ch][0]
	m.lies[ch] = slices.Clone(m.lies[ch][1:])
	return v, from, true
}

// tick lets n ticks go by, one by one.
func (m *model) tick(n int) {
	m.woken = nil
	for range n {
		if m.now == most {
			return
		}
		m.now++
		l := m.in(api.Sleeping, m.now)
		slices.Sort(l)
		for _, t := range l {
			m.wake(t)
		}
	}
}

// A walk is a run by chance, of a state and its model, and of what came to be.
type walk struct {
	r    *rand.Rand
	m    *model
	c    api.Core
	came map[string]int
}

// anyProgram is one that may be, of pieces that ask for things; few things, so that threads meet, and often those of one kind alone.
func anyProgram(r *rand.Rand) api.Program {
	kinds := r.Perm(4)[:1+r.Intn(3)]
	p := program(busyCode(r), anyCode(r, kinds), anyCode(r, kinds), anyCode(r, kinds))
	p.Semas = []int{r.Intn(2), r.Intn(3), 1}
	p.Chans = []int{r.Intn(2), r.Intn(3), 1}
	p.Threads = 1 + r.Intn(api.MaxThreads)
	if r.Intn(3) == 0 {
		p.Funcs[0].Code = anyCode(r, kinds)
		p.Threads = 1 + r.Intn(9)
	}
	return p
}

// busyCode is that of one that waits for ticks alone: it spawns many, and helps those that wait.
func busyCode(r *rand.Rand) []api.Instr {
	var l []api.Instr
	for range 1 + r.Intn(12) {
		a := r.Intn(3)
		l = append(l, in(api.Spawn, 1+r.Intn(3), api.Pop, 0)...)
		l = append(l, oneOf(r, in(api.Up, a), in(api.Signal, a), in(api.Broadcast, a), in(api.Yield, 0), in(api.Push, 1, api.Sleep, 0))...)
	}
	return append(l, in(api.Jump, 0)...)
}

// anyCode is a function's: it may fill its stack; then it goes round pieces of some kinds.
func anyCode(r *rand.Rand, kinds []int) []api.Instr {
	var l []api.Instr
	if r.Intn(3) == 0 {
		l = slices.Repeat(in(api.Push, 1), 13+r.Intn(4))
	}
	round := len(l)
	for range 2 + r.Intn(6) {
		l = append(l, anyPiece(r, kinds[r.Intn(len(kinds))])...)
	}
	return append(l, oneOf(r, in(api.Jump, round), in(api.Jump, round), in(api.Ret, 0), nil)...)
}

// anyPiece is a few instructions that ask for one thing of a kind; rarely it is some other one.
func anyPiece(r *rand.Rand, kind int) []api.Instr {
	a := r.Intn(3)
	cond := (a + 1) % 3
	switch {
	case r.Intn(25) == 0:
		return oneOf(r, in(api.Exit, 0), in(api.Pop, 0), in(api.Unlock, a), in(api.Wait, a), in(api.Call, r.Intn(4)), in(api.Push, most, api.Sleep, 0))
	case kind == 0:
		return oneOf(r, in(api.Spawn, r.Intn(4)), in(api.Spawn, r.Intn(4), api.Join, 0, api.Print, 0), in(api.Push, r.Intn(4), api.Join, 0, api.Print, 0), in(api.Push, r.Intn(9), api.Join, 0), in(api.Push, r.Intn(8)-2, api.Sleep, 0))
	case kind == 1:
		return oneOf(r, in(api.Lock, a, api.Yield, 0, api.Unlock, a), in(api.Lock, a, api.Wait, cond, api.Unlock, a), in(api.Lock, a, api.Signal, cond, api.Unlock, a), in(api.Lock, a, api.Broadcast, cond, api.Unlock, a))
	case kind == 2:
		return oneOf(r, in(api.Down, a), in(api.Up, a), in(api.Up, a), in(api.Yield, 0))
	}
	return oneOf(r, in(api.Push, r.Intn(100), api.Send, a), in(api.Push, r.Intn(100), api.Send, a), in(api.Push, r.Intn(100), api.Send, a), in(api.Recv, a, api.Print, 0), in(api.Recv, a), in(api.Select, a, api.Print, 0, api.Print, 0), in(api.Select, a))
}

// oneOf is one of some.
func oneOf(r *rand.Rand, l ...[]api.Instr) []api.Instr {
	return l[r.Intn(len(l))]
}

// step lets a thread step in the state and in its model, and asks that both are one.
func (w *walk) step(t *testing.T, who int) {
	t.Helper()
	asked := step
	if w.r.Intn(8) > 0 {
		asked = plainStep
	}
	c, seen, woken, e := asked(t, "a step", w.m.p, w.c, who)
	deadAhead := w.m.dead()
	r := w.m.step(who)
	if e != api.OK || !slices.Equal(seen, w.m.seen) || !slices.Equal(woken, w.m.woken) {
		t.Fatalf("a step of %d, which asks for %v: %v, %v, %v, not %v, %v", who, r, seen, woken, e, w.m.seen, w.m.woken)
	}
	w.is(t, c)
	w.note("kind " + strconv.Itoa(r.Kind) + " to " + strconv.Itoa(w.m.threads[who].State))
	w.note("woken " + strconv.Itoa(min(len(woken), 2)) + " by " + strconv.Itoa(r.Kind))
	if w.m.dead() > deadAhead && r.Kind != vm.End {
		w.note("over by " + strconv.Itoa(r.Kind))
	}
}

// dead is how many threads are over.
func (m *model) dead() int {
	return len(m.in(api.Dead, 0))
}

// note counts what came to be.
func (w *walk) note(what string) {
	w.came[what]++
}

// tick lets ticks go by in both.
func (w *walk) tick(t *testing.T, n int) {
	t.Helper()
	given := roomyCore(w.c)
	c, woken := core.Tick(given, n)
	w.m.tick(n)
	if !slices.Equal(woken, w.m.woken) {
		t.Fatalf("%d ticks: %v, not %v", n, woken, w.m.woken)
	}
	out := copied(c)
	isUntouched(t, "a tick", given, w.c, c)
	w.is(t, out)
}

// is asks that a state, which is the walk's from now on, is the model's, and that what is asked of it is so, too.
func (w *walk) is(t *testing.T, c api.Core) {
	t.Helper()
	want := w.m.core()
	if !equal(c, want) || !core.Same(c, want) || core.Same(c, w.c) != equal(c, w.c) {
		t.Fatalf("the state is %v, not %v", c, want)
	}
	w.c = c
	ready := w.m.in(api.Ready, 0)
	slices.Sort(ready)
	if got := core.Ready(c); !slices.Equal(got, ready) {
		t.Fatalf("Ready: %v, not %v", got, ready)
	}
	sleep := w.m.waiting(func(x *member) bool { return x.State == api.Sleeping })
	slices.SortFunc(sleep, func(a, b int) int { return cmp.Compare(w.m.threads[a].On, w.m.threads[b].On) })
	next, ok := core.Next(c)
	if ok != (len(sleep) > 0) || ok && next != w.m.threads[sleep[0]].On || !ok && next != 0 {
		t.Fatalf("Next: %d, %v", next, ok)
	}
	dead := w.m.dead()
	if core.Over(c) != (dead == len(c.Threads)) || core.Stuck(c) != (len(ready)+len(sleep) == 0 && dead < len(c.Threads)) {
		t.Fatalf("Over: %v; Stuck: %v; of %v", core.Over(c), core.Stuck(c), c.Threads)
	}
	for _, x := range c.Threads {
		if !stack.May(w.m.p, x) {
			t.Fatalf("%v is none that may be", x)
		}
	}
}

// refused asks Step of threads that may not step.
func (w *walk) refused(t *testing.T) {
	t.Helper()
	for who := -1; who <= len(w.c.Threads); who++ {
		want := api.ErrState
		if who < 0 || who == len(w.c.Threads) {
			want = api.ErrArg
		} else if w.m.threads[who].State == api.Ready {
			continue
		}
		c, seen, woken, e := step(t, "a step that is refused", w.m.p, w.c, who)
		if e != want || len(seen)+len(woken) > 0 || !equal(c, w.c) {
			t.Fatalf("a step of %d: %v, %v, %v, %v, not %v", who, c, seen, woken, e, want)
		}
	}
}

// goes goes on for many steps, as long as anything can.
func (w *walk) goes(t *testing.T) {
	t.Helper()
	for range 300 {
		l := core.Ready(w.c)
		if w.r.Intn(10) == 0 {
			w.refused(t)
		}
		if len(l) == 0 || w.r.Intn(12) == 0 {
			w.tick(t, w.r.Intn(4))
		}
		if len(l) > 0 {
			w.step(t, l[w.r.Intn(len(l))])
		} else if _, ok := core.Next(w.c); !ok {
			return
		}
	}
}

// P11.1, P11.3: wherever programs come to, whoever steps, each that waits stands in just the row that its State and On tell, as the model's do.
func TestWalksAreTheModels(t *testing.T) {
	r := rand.New(rand.NewSource(111))
	came := map[string]int{}
	for range 800 {
		p := anyProgram(r)
		if !code.May(p) {
			t.Fatalf("what this test leans on is no program: %v", p)
		}
		w := &walk{r: r, m: fresh(p), c: core.New(p), came: came}
		w.is(t, w.c)
		w.goes(t)
		if t.Failed() {
			return
		}
	}
	hasCome(t, came)
}

// hasCome asks that the walks came to all that may become of a request, so that none of it was left out.
func hasCome(t *testing.T, came map[string]int) {
	t.Helper()
	for kind, states := range map[int][]int{
		vm.None: {api.Ready}, vm.End: {api.Dead}, vm.Yield: {api.Ready}, vm.Print: {api.Ready},
		vm.Spawn:     {api.Ready, api.Dead},
		vm.Sleep:     {api.Ready, api.Sleeping},
		vm.Join:      {api.Ready, api.Joining, api.Dead},
		vm.Lock:      {api.Ready, api.Locking},
		vm.Unlock:    {api.Ready, api.Dead},
		vm.Wait:      {api.Waiting, api.Dead},
		vm.Signal:    {api.Ready},
		vm.Broadcast: {api.Ready},
		vm.Down:      {api.Ready, api.Downing},
		vm.Up:        {api.Ready},
		vm.Send:      {api.Ready, api.Sending},
		vm.Recv:      {api.Ready, api.Receiving, api.Dead},
		vm.Select:    {api.Ready, api.Selecting, api.Dead},
	} {
		for _, state := range states {
			if what := "kind " + strconv.Itoa(kind) + " to " + strconv.Itoa(state); came[what] == 0 {
				t.Errorf("no walk came to: %s", what)
			}
		}
	}
	for _, kind := range []int{vm.End, vm.Spawn, vm.Unlock, vm.Wait, vm.Signal, vm.Broadcast, vm.Up, vm.Send, vm.Recv, vm.Select} {
		if what := "woken 1 by " + strconv.Itoa(kind); came[what] == 0 {
			t.Errorf("no walk came to: %s", what)
		}
	}
	for _, what := range []string{"woken 2 by " + strconv.Itoa(vm.End), "over by " + strconv.Itoa(vm.Send)} {
		if came[what] == 0 {
			t.Errorf("no walk came to: %s", what)
		}
	}
}
