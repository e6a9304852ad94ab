package core_test

import (
	"slices"
	"testing"

	"hibernacle/api"
	"hibernacle/core"
)

// P11.2

// states is a state of threads in these states, those that wait On the numbers that they have, and 40.
func states(l ...int) api.Core {
	var c api.Core
	for t, state := range l {
		x := api.Thread{State: state}
		switch state {
		case api.Ready:
			x.Frames = []api.Frame{{}}
		case api.Dead:
			x.Code = t % api.Codes
		default:
			x.Frames, x.On = []api.Frame{{}}, 40+t
		}
		c.Threads = append(c.Threads, x)
	}
	return c
}

func TestReady(t *testing.T) {
	all := []int{api.Ready, api.Sleeping, api.Joining, api.Locking, api.Waiting, api.Downing, api.Sending, api.Receiving, api.Selecting, api.Dead}
	for _, x := range []struct{ states, want []int }{
		{all, []int{0}}, {append(all, all...), []int{0, 10}}, {all[1:], nil}, {[]int{0, 0, 0}, []int{0, 1, 2}}, {[]int{9, 0, 1, 0, 3}, []int{1, 3}}, {make([]int, 32), numbersFrom(0, 32)},
	} {
		c := states(x.states...)
		if got := core.Ready(c); !slices.Equal(got, x.want) {
			t.Errorf("Ready of %v: %v, not %v", x.states, got, x.want)
		}
		if !equal(c, states(x.states...)) {
			t.Errorf("Ready changes %v", x.states)
		}
	}
}

// numbersFrom is n numbers from one on.
func numbersFrom(from, n int) []int {
	l := make([]int, n)
	for i := range l {
		l[i] = from + i
	}
	return l
}

func TestNext(t *testing.T) {
	for _, x := range []struct {
		ons  []int
		want int
		ok   bool
	}{
		{[]int{0, 0}, 0, false}, {[]int{7}, 7, true}, {[]int{9, 7, 8}, 7, true}, {[]int{0, 9, 0, 8}, 8, true}, {[]int{5, 6, 5}, 5, true},
		{[]int{most, most}, most, true}, {[]int{most, most - 1}, most - 1, true}, {[]int{1, most}, 1, true},
	} {
		c := sleeping(t, 0, x.ons...)
		if got, ok := core.Next(c); got != x.want || ok != x.ok {
			t.Errorf("Next of %v: %d, %v", x.ons, got, ok)
		}
	}
	// Those that wait for other things are On less.
	for state := range api.States {
		c := states(state, api.Sleeping, state)
		if state == api.Sleeping {
			continue
		}
		c.Threads[1].On = 90
		if got, ok := core.Next(c); got != 90 || !ok {
			t.Errorf("Next, beside the state %d: %d, %v", state, got, ok)
		}
		if got, ok := core.Next(states(state, state)); got != 0 || ok {
			t.Errorf("Next of the state %d alone: %d, %v", state, got, ok)
		}
	}
}

func TestOverAndStuck(t *testing.T) {
	for a := range api.States {
		for b := range api.States {
			for d := range api.States {
				l := []int{a, b, d}
				over := a == api.Dead && b == api.Dead && d == api.Dead
				stuck := !over && !slices.Contains(l, api.Ready) && !slices.Contains(l, api.Sleeping)
				if c := states(l...); core.Over(c) != over || core.Stuck(c) != stuck {
					t.Errorf("%v: Over: %v, Stuck: %v", l, core.Over(c), core.Stuck(c))
				}
			}
		}
		c := states(a)
		if over, stuck := a == api.Dead, a > api.Sleeping && a < api.Dead; core.Over(c) != over || core.Stuck(c) != stuck {
			t.Errorf("%d alone: Over: %v, Stuck: %v", a, core.Over(c), core.Stuck(c))
		}
	}
}

// whole is a state in which something stands everywhere.
func whole() api.Core {
	return api.Core{
		Now: 41,
		Threads: []api.Thread{
			{State: api.Selecting, On: 2, Frames: []api.Frame{{Func: 3, Pc: 4, Locals: []int{5, 6}}, {Func: 1, Pc: 2}}, Stack: []int{7, 8}},
			{State: api.Dead, Code: 2},
		},
		Owners: []int{-1, 3}, Counts: []int{0, 100, 4},
		Bufs: [][]int{{1}, nil, {2, 3}}, LockQ: [][]int{nil, {1, 2}}, WaitQ: [][]int{{9}, {0, 1}},
		DownQ: [][]int{{3, 4}, nil, {5}}, SendQ: [][]int{{6, 7, 8, 9}, nil, nil}, RecvQ: [][]int{nil, {0}, {0}},
	}
}

// changes is each change of the whole state by which it is another one.
func changes() map[string]func(c *api.Core) {
	m := map[string]func(c *api.Core){
		"now":             func(c *api.Core) { c.Now++ },
		"no thread":       func(c *api.Core) { c.Threads = c.Threads[:1] },
		"a thread more":   func(c *api.Core) { c.Threads = append(c.Threads, api.Thread{}) },
		"another row":     func(c *api.Core) { slices.Reverse(c.Threads) },
		"state":           func(c *api.Core) { c.Threads[0].State++ },
		"on":              func(c *api.Core) { c.Threads[0].On-- },
		"code":            func(c *api.Core) { c.Threads[1].Code++ },
		"func":            func(c *api.Core) { c.Threads[0].Frames[1].Func++ },
		"pc":              func(c *api.Core) { c.Threads[0].Frames[0].Pc++ },
		"local":           func(c *api.Core) { c.Threads[0].Frames[0].Locals[1]++ },
		"a local less":    func(c *api.Core) { c.Threads[0].Frames[0].Locals = c.Threads[0].Frames[0].Locals[:1] },
		"a frame less":    func(c *api.Core) { c.Threads[0].Frames = c.Threads[0].Frames[:1] },
		"stack":           func(c *api.Core) { c.Threads[0].Stack[0]++ },
		"a number less":   func(c *api.Core) { c.Threads[0].Stack = c.Threads[0].Stack[:1] },
		"owner":           func(c *api.Core) { c.Owners[0]++ },
		"an owner less":   func(c *api.Core) { c.Owners = c.Owners[:1] },
		"count":           func(c *api.Core) { c.Counts[2]++ },
		"a count more":    func(c *api.Core) { c.Counts = append(c.Counts, 0) },
		"owners, counts":  func(c *api.Core) { c.Owners, c.Counts = c.Counts, c.Owners },
		"lockq and waitq": func(c *api.Core) { c.LockQ, c.WaitQ = c.WaitQ, c.LockQ },
		"bufs and downq":  func(c *api.Core) { c.Bufs, c.DownQ = c.DownQ, c.Bufs },
		"sendq and recvq": func(c *api.Core) { c.SendQ, c.RecvQ = c.RecvQ, c.SendQ },
	}
	for i := range rowsOf(&api.Core{}) {
		name := string(rune('0' + i))
		m["a number of the rows "+name] = func(c *api.Core) { l := slices.Concat(*rowsOf(c)[i]...); l[0]++; (*rowsOf(c)[i])[0] = l }
		m["a number put into the rows "+name] = func(c *api.Core) { l := *rowsOf(c)[i]; l[1] = append(l[1], 5) }
		m["a row less of the rows "+name] = func(c *api.Core) { l := *rowsOf(c)[i]; *rowsOf(c)[i] = l[:len(l)-1] }
		m["a row more of the rows "+name] = func(c *api.Core) { *rowsOf(c)[i] = append(*rowsOf(c)[i], nil) }
	}
	return m
}

func TestSame(t *testing.T) {
	if a, b := whole(), copied(whole()); !core.Same(a, b) || !core.Same(b, a) || !core.Same(a, a) || !core.Same(roomyCore(a), b) {
		t.Error("a state is not the same as itself")
	}
	for name, change := range changes() {
		a, b := whole(), with(whole(), change)
		if core.Same(a, b) || core.Same(b, a) {
			t.Errorf("it is told as the same: %s: %v", name, b)
		}
		if !core.Same(b, copied(b)) {
			t.Errorf("%s: it is not the same as itself", name)
		}
	}
}

// Nil and empty lists are one.
func TestSameOfNone(t *testing.T) {
	empty := api.Core{
		Threads: []api.Thread{}, Owners: []int{}, Counts: []int{}, Bufs: [][]int{}, LockQ: [][]int{}, WaitQ: [][]int{}, DownQ: [][]int{}, SendQ: [][]int{}, RecvQ: [][]int{},
	}
	if !core.Same(empty, api.Core{}) || !core.Same(api.Core{}, empty) {
		t.Error("empty lists are not the same as nil")
	}
	for i := range rowsOf(&empty) {
		a, b := whole(), whole()
		*rowsOf(&a)[i], *rowsOf(&b)[i] = [][]int{{}, {1}}, [][]int{nil, {1}}
		if !core.Same(a, b) || !core.Same(b, a) {
			t.Errorf("the rows %d: an empty one is not the same as nil", i)
		}
	}
}

func TestClone(t *testing.T) {
	for _, c := range []api.Core{whole(), {}, states(0, 1, 9), core.New(program(nil))} {
		in := roomyCore(c)
		isCore(t, "Clone", core.Clone(in), c)
		isUntouched(t, "Clone", in, c, core.Clone(in))
		isOwn(t, "Clone", core.Clone(in))
	}
	for name, change := range changes() {
		c := with(whole(), change)
		isCore(t, name, core.Clone(c), c)
	}
}
