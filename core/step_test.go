package core_test

import (
	"slices"
	"strconv"
	"testing"

	"hibernacle/api"
	"hibernacle/core"
	"hibernacle/stack"
)

// P11.1: New and Step

// A going is a thread that steps, and what comes of it: its state, On and stack then, what was seen, and who came to be Ready.
type going struct {
	t, state, on int
	stack        []int
	seen         []api.Event
	woken        []int
}

func printed(t, n int) api.Event { return api.Event{Kind: api.Printed, Thread: t, N: n} }
func spawned(t, n int) api.Event { return api.Event{Kind: api.Spawned, Thread: t, N: n} }
func ended(t, n int) api.Event   { return api.Event{Kind: api.Ended, Thread: t, N: n} }

// events is some of them.
func events(l ...api.Event) []api.Event { return l }

// goes lets threads step from a state on, one behind the other, asks what comes of each, and answers the state behind them.
func goes(t *testing.T, name string, p api.Program, c api.Core, l ...going) api.Core {
	t.Helper()
	for i, g := range l {
		at := name + ": " + strconv.Itoa(i)
		out, seen, woken, e := step(t, at, p, c, g.t)
		if e != api.OK {
			t.Fatalf("%s: the error %d", at, e)
		}
		if x := out.Threads[g.t]; x.State != g.state || x.On != g.on || !slices.Equal(x.Stack, g.stack) {
			t.Errorf("%s: the thread is %v, not %v", at, x, g)
		}
		if !slices.Equal(seen, g.seen) || !slices.Equal(woken, g.woken) {
			t.Errorf("%s: %v is seen, %v woken, not %v, %v", at, seen, woken, g.seen, g.woken)
		}
		isInItsRows(t, at, p, out)
		c = out
	}
	return c
}

// times is how often a number stands in a row.
func times(row []int, n int) int {
	is := 0
	for _, m := range row {
		if m == n {
			is++
		}
	}
	return is
}

// isInItsRows asks that each thread stands in just the rows that its State and On tell, once in each (P11.3).
func isInItsRows(t *testing.T, name string, p api.Program, c api.Core) {
	t.Helper()
	var senders [][]int
	for _, row := range c.SendQ {
		var l []int
		for i := 0; i < len(row); i += 2 {
			l = append(l, row[i])
		}
		senders = append(senders, l)
	}
	for who, x := range c.Threads {
		for state, rows := range map[int][][]int{api.Locking: c.LockQ, api.Waiting: c.WaitQ, api.Downing: c.DownQ, api.Sending: senders, api.Receiving: c.RecvQ} {
			for i, row := range rows {
				want := 0
				if x.State == state && x.On == i || state == api.Receiving && x.State == api.Selecting && slices.Contains(p.Choices[x.On], i) {
					want = 1
				}
				if times(row, who) != want {
					t.Errorf("%s: the thread %d, %v, stands not %d times in the row %d of those in the state %d: %v", name, who, x, want, i, state, row)
				}
			}
		}
	}
}

// isCore asks that got is want.
func isCore(t *testing.T, name string, got, want api.Core) {
	t.Helper()
	if !equal(got, want) {
		t.Errorf("%s: %v, not %v", name, got, want)
	}
}

func TestNew(t *testing.T) {
	first := []api.Thread{{Frames: []api.Frame{{Locals: []int{0, 0, 0}}}}}
	f := []api.Func{{Locals: 3, Code: in(api.Exit, 0)}, {Locals: 1}}
	isCore(t, "no things", core.New(api.Program{Funcs: f, Threads: 1}), api.Core{Threads: first})
	isCore(t, "no locals", core.New(api.Program{Funcs: f[1:], Threads: 32}), api.Core{Threads: []api.Thread{{Frames: []api.Frame{{Locals: []int{0}}}}}})
	isCore(t, "things", core.New(api.Program{
		Funcs: f, Mutexes: 2, Conds: []int{1, 0, 1}, Semas: []int{0, 100, 7, 1}, Chans: []int{8, 0, 1, 2, 3}, Choices: [][]int{{0}}, Threads: 5,
	}), api.Core{
		Threads: first, Owners: []int{-1, -1}, LockQ: make([][]int, 2), WaitQ: make([][]int, 3),
		Counts: []int{0, 100, 7, 1}, DownQ: make([][]int, 4), Bufs: make([][]int, 5), SendQ: make([][]int, 5), RecvQ: make([][]int, 5),
	})
	for n := range api.MaxThings + 1 {
		c := core.New(api.Program{Funcs: f, Mutexes: n, Conds: make([]int, n), Semas: make([]int, n), Chans: make([]int, n), Threads: 1})
		isCore(t, "many things", c, api.Core{
			Threads: first, Owners: slices.Repeat([]int{-1}, n), LockQ: make([][]int, n), WaitQ: make([][]int, n),
			Counts: make([]int, n), DownQ: make([][]int, n), Bufs: make([][]int, n), SendQ: make([][]int, n), RecvQ: make([][]int, n),
		})
	}
}

func TestNewIsItsOwn(t *testing.T) {
	p := program(in(api.Exit, 0))
	a, b := core.New(p), core.New(p)
	was := copied(b)
	isOwn(t, "New", a)
	scratch(a)
	isCore(t, "another one", b, was)
	if !slices.Equal(p.Semas, []int{0, 1, 2}) {
		t.Errorf("the program's counts are changed: %v", p.Semas)
	}
}

func TestTheExample(t *testing.T) {
	p := api.Program{Funcs: []api.Func{{Code: in(api.Push, 5, api.Print, 0, api.Exit, 0)}}, Threads: 1}
	c := goes(t, "the example", p, core.New(p),
		going{stack: []int{5}},
		going{seen: events(printed(0, 5))},
		going{state: api.Dead, seen: events(ended(0, 0))},
	)
	isCore(t, "the example", c, api.Core{Threads: []api.Thread{{State: api.Dead}}})
}

func TestStepOfNoThread(t *testing.T) {
	p := program(in(api.Lock, 0), in(api.Push, 1))
	c := stand(t, p)
	for _, who := range append([]int{2, 3, 31, 32}, far...) {
		out, seen, woken, e := step(t, "no thread", p, c, who)
		if e != api.ErrArg || len(seen)+len(woken) > 0 {
			t.Errorf("%d: %v, %v, %v", who, seen, woken, e)
		}
		isCore(t, "no thread", out, c)
	}
}

func TestStepOfOneThatIsNotReady(t *testing.T) {
	p := program(in(api.Push, 1), in(api.Push, 1))
	for state := api.Ready + 1; state < api.States; state++ {
		for _, on := range []int{0, 1, 5} {
			c := with(stand(t, p), func(c *api.Core) { c.Threads[1].State, c.Threads[1].On = state, on })
			out, seen, woken, e := step(t, "not ready", p, c, 1)
			if e != api.ErrState || len(seen)+len(woken) > 0 {
				t.Errorf("%d: %v, %v, %v", state, seen, woken, e)
			}
			isCore(t, "not ready", out, c)
			if _, _, _, e := core.Step(p, c, 0); e != api.OK {
				t.Errorf("the other one does not step: %d", e)
			}
		}
	}
}

// What asks for nothing changes the thread alone.
func TestNothingIsAsked(t *testing.T) {
	p := program(in(api.Exit, 0), in(api.Push, 5, api.Yield, 0, api.Dup, 0, api.Add, 0, api.Set, 1, api.Get, 1, api.Call, 2, api.Zero, 0), in(api.Push, 0, api.Ret, 0))
	was := stand(t, p)
	c := goes(t, "nothing is asked", p, was,
		going{t: 1, stack: []int{5}}, going{t: 1, stack: []int{5}}, going{t: 1, stack: []int{5, 5}}, going{t: 1, stack: []int{10}},
		going{t: 1}, going{t: 1, stack: []int{10}}, going{t: 1, stack: []int{10}}, going{t: 1, stack: []int{10, 0}}, going{t: 1, stack: []int{10, 0}}, going{t: 1, stack: []int{10}},
	)
	isCore(t, "nothing is asked", c, with(was, func(c *api.Core) {
		c.Threads[1] = api.Thread{Frames: []api.Frame{{Func: 1, Locals: []int{0, 10}}}, Stack: []int{10}}
	}))
}

// joining lets threads join another one.
func joining(c *api.Core, on int, l ...int) {
	for _, t := range l {
		c.Threads[t].State, c.Threads[t].On = api.Joining, on
	}
}

// full gives threads as many numbers as there is room for, less so many.
func full(c *api.Core, less int, l ...int) {
	for _, t := range l {
		c.Threads[t].Stack = numbers(api.MaxStack - less)
	}
}

func TestEnds(t *testing.T) {
	for code, l := range map[int][]api.Instr{
		api.Fine: in(api.Exit, 0), api.Under: in(api.Pop, 0), api.Over: in(api.Push, 1), api.Deep: in(api.Call, 2), api.RunOff: nil,
	} {
		p := program(nil, nil, l, nil, nil, nil)
		c := with(stand(t, p), func(c *api.Core) {
			joining(c, 2, 5, 1, 4)
			joining(c, 1, 3)
			c.Threads[4].Stack = []int{7}
			if code == api.Over {
				full(c, 0, 2)
			}
			if code == api.Deep {
				c.Threads[2].Frames = slices.Repeat(c.Threads[2].Frames, api.MaxFrames)
			}
		})
		out := goes(t, "an end", p, c, going{t: 2, state: api.Dead, seen: events(ended(2, code)), woken: []int{1, 4, 5}})
		isCore(t, "an end", out, with(c, func(c *api.Core) {
			c.Threads[2] = api.Thread{State: api.Dead, Code: code}
			for _, t := range []int{1, 4, 5} {
				c.Threads[t].State, c.Threads[t].On = api.Ready, 0
				c.Threads[t].Stack = append(c.Threads[t].Stack, code)
			}
		}))
	}
}

// The last return ends a thread, an earlier one does not.
func TestReturns(t *testing.T) {
	p := program(in(api.Call, 1, api.Ret, 0), in(api.Ret, 0), nil)
	c := with(stand(t, p), func(c *api.Core) { joining(c, 0, 2) })
	goes(t, "returns", p, c, going{}, going{}, going{state: api.Dead, seen: events(ended(0, api.Fine)), woken: []int{2}})
}

// Who has no room for the code is over, too, and who joined that one comes ahead of the next one.
func TestJoinersWithoutRoom(t *testing.T) {
	p := program(in(api.Exit, 0), nil, nil, nil, nil, nil, nil, nil, nil)
	c := with(stand(t, p), func(c *api.Core) {
		joining(c, 0, 2, 4, 7)
		joining(c, 4, 1, 6)
		joining(c, 6, 3, 8)
		joining(c, 2, 5)
		full(c, 0, 4, 6, 8)
		full(c, 1, 1)
	})
	out := goes(t, "no room", p, c, going{
		state: api.Dead,
		seen:  events(ended(0, api.Fine), ended(4, api.Over), ended(6, api.Over), ended(8, api.Over)),
		woken: []int{2, 1, 3, 7},
	})
	isCore(t, "no room", out, with(c, func(c *api.Core) {
		for _, t := range []int{4, 6, 8} {
			c.Threads[t] = api.Thread{State: api.Dead, Code: api.Over}
		}
		c.Threads[0] = api.Thread{State: api.Dead}
		for t, code := range map[int]int{2: api.Fine, 7: api.Fine, 1: api.Over, 3: api.Over} {
			c.Threads[t].State, c.Threads[t].On = api.Ready, 0
			c.Threads[t].Stack = append(c.Threads[t].Stack, code)
		}
	}))
}

// A chain of as many threads as may be, each of which joined the one ahead, and has no room.
func TestAChainWithoutRoom(t *testing.T) {
	p := program(in(api.Exit, 0))
	c := stand(t, p)
	seen := events(ended(0, api.Fine))
	for i := 1; i < api.MaxThreads; i++ {
		c.Threads = append(c.Threads, stack.New(p, 0))
		joining(&c, i-1, i)
		full(&c, 0, i)
		seen = append(seen, ended(i, api.Over))
	}
	out := goes(t, "a chain", p, c, going{state: api.Dead, seen: seen})
	if !core.Over(out) {
		t.Errorf("not all are over: %v", out.Threads)
	}
}

func TestPrint(t *testing.T) {
	p := program(nil, in(api.Print, 0))
	for _, v := range []int{0, 1, -1, 5, most, -most} {
		c := with(stand(t, p), func(c *api.Core) { c.Threads[1].Stack = []int{3, v} })
		out := goes(t, "print", p, c, going{t: 1, stack: []int{3}, seen: events(printed(1, v))})
		isCore(t, "print", out, with(c, func(c *api.Core) { c.Threads[1].Stack, c.Threads[1].Frames[0].Pc = []int{3}, 1 }))
	}
}

func TestSpawn(t *testing.T) {
	for f, locals := range []int{2, 0, 8} {
		p := program(in(api.Spawn, f), nil, in(api.Push, 1))
		for i, n := range []int{2, 0, 8} {
			p.Funcs[i].Locals = n
		}
		p.Threads = 4
		c := with(stand(t, p), func(c *api.Core) { c.Threads[0].Stack = []int{9} })
		out := goes(t, "spawn", p, c, going{stack: []int{9, 3}, seen: events(spawned(0, 3)), woken: []int{3}})
		isCore(t, "spawn", out, with(c, func(c *api.Core) {
			c.Threads[0].Stack, c.Threads[0].Frames[0].Pc = []int{9, 3}, 1
			c.Threads = append(c.Threads, api.Thread{Frames: []api.Frame{{Func: f, Locals: make([]int, locals)}}})
		}))
	}
}

// The dead ones count, too: a number is given once.
func TestSpawnOfOneTooMany(t *testing.T) {
	p := program(in(api.Spawn, 1), nil, nil)
	p.Threads = 3
	for range 2 {
		c := with(stand(t, p), func(c *api.Core) { c.Threads[0].Stack = []int{9} })
		for dead := range 2 {
			if dead == 1 {
				c.Threads[2] = api.Thread{State: api.Dead}
			}
			out := goes(t, "one too many", p, c, going{stack: []int{9, -1}, seen: events(spawned(0, -1))})
			isCore(t, "one too many", out, with(c, func(c *api.Core) {
				c.Threads[0].Stack, c.Threads[0].Frames[0].Pc = []int{9, -1}, 1
			}))
		}
	}
	alone := api.Program{Funcs: []api.Func{{Code: in(api.Spawn, 0)}}, Threads: 1}
	goes(t, "the only one", alone, core.New(alone), going{stack: []int{-1}, seen: events(spawned(0, -1))})
}

func TestSpawnUpToTheMost(t *testing.T) {
	for _, many := range []int{1, 2, 31, 32} {
		p := api.Program{Funcs: []api.Func{{Code: in(api.Spawn, 1, api.Pop, 0, api.Jump, 0)}, {}}, Threads: many}
		var l []going
		for n := 1; n < many; n++ {
			l = append(l, going{stack: []int{n}, seen: events(spawned(0, n)), woken: []int{n}}, going{}, going{})
		}
		l = append(l, going{stack: []int{-1}, seen: events(spawned(0, -1))})
		if c := goes(t, "up to the most", p, core.New(p), l...); len(c.Threads) != many {
			t.Errorf("there are %d threads, not %d", len(c.Threads), many)
		}
	}
}

// Who has no room for the number is over, behind the spawning; the new one is there.
func TestSpawnWithoutRoomForTheNumber(t *testing.T) {
	p := program(in(api.Spawn, 1), nil, nil)
	for threads, g := range map[int]going{
		4: {state: api.Dead, seen: events(spawned(0, 3), ended(0, api.Over)), woken: []int{3, 2}},
		3: {state: api.Dead, seen: events(spawned(0, -1), ended(0, api.Over)), woken: []int{2}},
	} {
		p.Threads = threads
		c := with(stand(t, p), func(c *api.Core) {
			full(c, 0, 0)
			joining(c, 0, 2)
		})
		out := goes(t, "no room for the number", p, c, g)
		if len(out.Threads) != threads || !slices.Equal(out.Threads[2].Stack, []int{api.Over}) {
			t.Errorf("the threads are %v", out.Threads)
		}
	}
}

func TestSleep(t *testing.T) {
	p := program(nil, in(api.Sleep, 0))
	for _, x := range []struct{ now, v, on int }{
		{0, 1, 1}, {0, 7, 7}, {5, 1, 6}, {5, 100, 105}, {0, most, most}, {1, most, most}, {most - 1, 1, most}, {most - 1, 2, most}, {most - 1, most, most},
		{0, 0, -1}, {5, 0, -1}, {0, -1, -1}, {5, -1, -1}, {5, -5, -1}, {5, -most, -1}, {most, 0, -1}, {most, 1, -1}, {most, most, -1}, {most, -1, -1},
	} {
		c := with(stand(t, p), func(c *api.Core) { c.Now, c.Threads[1].Stack = x.now, []int{4, x.v} })
		g := going{t: 1, stack: []int{4}}
		if x.on >= 0 {
			g.state, g.on = api.Sleeping, x.on
		}
		out := goes(t, "sleep", p, c, g)
		isCore(t, "sleep", out, with(c, func(c *api.Core) {
			c.Threads[1].State, c.Threads[1].On, c.Threads[1].Stack, c.Threads[1].Frames[0].Pc = g.state, g.on, []int{4}, 1
		}))
	}
}

func TestJoinOfNone(t *testing.T) {
	p := program(nil, in(api.Join, 0), nil)
	for _, v := range []int{-1, -2, -most, 3, 4, 31, 32, most, 1} {
		c := with(stand(t, p), func(c *api.Core) {
			c.Threads[1].Stack = []int{4, v}
			joining(c, 1, 2)
		})
		out := goes(t, "join of none", p, c, going{t: 1, state: api.Dead, seen: events(ended(1, api.BadJoin)), woken: []int{2}})
		isCore(t, "join of none", out, with(c, func(c *api.Core) {
			c.Threads[1] = api.Thread{State: api.Dead, Code: api.BadJoin}
			c.Threads[2].State, c.Threads[2].On, c.Threads[2].Stack = api.Ready, 0, []int{api.BadJoin}
		}))
	}
}

func TestJoin(t *testing.T) {
	p := program(nil, in(api.Join, 0), nil)
	for _, v := range []int{0, 2} {
		for code := range api.Codes {
			c := with(stand(t, p), func(c *api.Core) {
				c.Threads[1].Stack = append(numbers(15), v)
				c.Threads[v] = api.Thread{State: api.Dead, Code: code}
			})
			goes(t, "join of a dead one", p, c, going{t: 1, stack: append(numbers(15), code)})
		}
		for state := range api.Dead {
			c := with(stand(t, p), func(c *api.Core) {
				c.Threads[1].Stack = append(numbers(15), v)
				c.Threads[v].State, c.Threads[v].On = state, 1
			})
			out, seen, woken, e := step(t, "join", p, c, 1)
			if e != api.OK || len(seen)+len(woken) > 0 {
				t.Errorf("join: %v, %v, %v", seen, woken, e)
			}
			isCore(t, "join", out, with(c, func(c *api.Core) {
				c.Threads[1] = api.Thread{State: api.Joining, On: v, Frames: []api.Frame{{Func: 1, Pc: 1, Locals: []int{0, 0}}}, Stack: numbers(15)}
			}))
		}
	}
}

// What may not be handed in makes no call fail.
func TestNothingFailsOfWhatMayNotBe(t *testing.T) {
	for op := range api.Ops {
		for _, a := range []int{-1, 0, 3, 99, 1 << 40} {
			p := program(in(op, a), in(op, a))
			c := core.New(p)
			full(&c, 1, 0)
			for _, q := range []api.Program{p, {}, {Funcs: p.Funcs}, {Funcs: p.Funcs, Threads: 5, Conds: []int{9, -1}, Choices: [][]int{{}, {7}, {1, 1}}}} {
				for _, c := range []api.Core{{}, c, {Threads: c.Threads}, {Threads: make([]api.Thread, 2)}, core.New(q), odd(c)} {
					core.Step(q, c, 0)
					core.Tick(c, 1<<62)
					core.Clone(c)
					core.Next(c)
					core.Over(c)
					core.Stuck(c)
				}
			}
		}
	}
}

// odd is a state in whose rows there are none that wait.
func odd(c api.Core) api.Core {
	return with(c, func(c *api.Core) {
		for _, rows := range rowsOf(c) {
			for i := range *rows {
				(*rows)[i] = []int{-7 + 8*i, 99, -1}
			}
		}
		c.Owners = []int{0, 5, -9}
		c.Threads = append(c.Threads, api.Thread{State: api.Joining, On: 1}, api.Thread{State: 77})
	})
}
