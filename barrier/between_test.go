package barrier_test

import (
	"slices"
	"testing"

	"hibernacle/api"
	"hibernacle/barrier"
	"hibernacle/core"
	"hibernacle/sched"
)

// P15.2: Between

// full is a state with threads, and rows, of all kinds.
func full(t *testing.T) api.Core {
	t.Helper()
	p := program(t, in(api.Push, 1), in(api.Push, 1), in(api.Push, 1))
	c := stand(p, 0, 1, 2)
	c.Now = 5
	c.Threads[1].Stack = row(4, 5)
	c.Threads[1].Frames = append(c.Threads[1].Frames, api.Frame{Func: 2, Pc: 1, Locals: row(6)})
	c.Threads[2] = api.Thread{State: api.Dead, Code: api.Over}
	c.Owners = row(2, -1)
	c.LockQ = [][]int{row(0, 1), nil}
	c.WaitQ = [][]int{nil, row(4, 3), nil}
	c.DownQ = [][]int{row(5, 6), nil}
	c.Bufs = [][]int{nil, row(8), row(1, 2)}
	c.SendQ = [][]int{row(7, 70, 8, 80), nil, nil}
	c.RecvQ = [][]int{nil, row(9, 10), nil}
	return c
}

func TestBetween(t *testing.T) {
	c := full(t)
	isBetween(t, "one state", c, c, nil)
	isBetween(t, "a clone", c, core.Clone(c), nil)
	for name, x := range map[string]struct {
		do     func(c *api.Core)
		thread []int
		things []barrier.Thing
	}{
		"the tick":                  {func(c *api.Core) { c.Now = 6 }, nil, nil},
		"a thread's state":          {func(c *api.Core) { c.Threads[0].State = api.Sleeping }, row(0), nil},
		"what it waits for":         {func(c *api.Core) { c.Threads[1].On = 3 }, row(1), nil},
		"its code":                  {func(c *api.Core) { c.Threads[2].Code = api.Deep }, row(2), nil},
		"its stack's uppermost":     {func(c *api.Core) { c.Threads[1].Stack[1] = 6 }, row(1), nil},
		"its stack's first":         {func(c *api.Core) { c.Threads[1].Stack[0] = 6 }, row(1), nil},
		"a number more":             {func(c *api.Core) { c.Threads[0].Stack = row(0) }, row(0), nil},
		"a number less":             {func(c *api.Core) { c.Threads[1].Stack = row(4) }, row(1), nil},
		"a frame less":              {func(c *api.Core) { c.Threads[1].Frames = c.Threads[1].Frames[:1] }, row(1), nil},
		"a frame's function":        {func(c *api.Core) { c.Threads[1].Frames[0].Func = 0 }, row(1), nil},
		"a frame's place":           {func(c *api.Core) { c.Threads[1].Frames[0].Pc = 1 }, row(1), nil},
		"a local":                   {func(c *api.Core) { c.Threads[1].Frames[1].Locals[0] = 7 }, row(1), nil},
		"two threads":               {func(c *api.Core) { c.Threads[2].Code, c.Threads[0].On = 0, 1 }, row(0, 2), nil},
		"one thread for another":    {func(c *api.Core) { c.Threads[0], c.Threads[2] = c.Threads[2], c.Threads[0] }, row(0, 2), nil},
		"a thread more":             {func(c *api.Core) { c.Threads = append(c.Threads, c.Threads[0]) }, row(3), nil},
		"two threads more":          {func(c *api.Core) { c.Threads = append(c.Threads, api.Thread{}, c.Threads[2]) }, row(3, 4), nil},
		"an owner":                  {func(c *api.Core) { c.Owners[0] = 0 }, nil, []barrier.Thing{mutex(0)}},
		"no owner":                  {func(c *api.Core) { c.Owners[0] = -1 }, nil, []barrier.Thing{mutex(0)}},
		"the first owner":           {func(c *api.Core) { c.Owners[1] = 0 }, nil, []barrier.Thing{mutex(1)}},
		"who waits for a mutex":     {func(c *api.Core) { c.LockQ[0] = row(1) }, nil, []barrier.Thing{mutex(0)}},
		"in another row":            {func(c *api.Core) { c.LockQ[0] = row(1, 0) }, nil, []barrier.Thing{mutex(0)}},
		"an owner, and who waits":   {func(c *api.Core) { c.Owners[0], c.LockQ[0] = 0, row(1) }, nil, []barrier.Thing{mutex(0)}},
		"of another mutex":          {func(c *api.Core) { c.Owners[1], c.LockQ[0] = 0, row(1) }, nil, []barrier.Thing{mutex(0), mutex(1)}},
		"of one more":               {func(c *api.Core) { c.Owners[0], c.LockQ[1] = 0, row(1) }, nil, []barrier.Thing{mutex(0), mutex(1)}},
		"who waits for a condition": {func(c *api.Core) { c.WaitQ[1][1] = 5 }, nil, []barrier.Thing{cond(1)}},
		"none waits for it":         {func(c *api.Core) { c.WaitQ[1] = nil }, nil, []barrier.Thing{cond(1)}},
		"others":                    {func(c *api.Core) { c.WaitQ[0], c.WaitQ[2] = row(0), row(1) }, nil, []barrier.Thing{cond(0), cond(2)}},
		"a count":                   {func(c *api.Core) { c.Counts[1] = 3 }, nil, []barrier.Thing{sema(1)}},
		"who waits for a semaphore": {func(c *api.Core) { c.DownQ[0] = row(5, 6, 7) }, nil, []barrier.Thing{sema(0)}},
		"a count, and who waits":    {func(c *api.Core) { c.Counts[0], c.DownQ[0] = 1, nil }, nil, []barrier.Thing{sema(0)}},
		"both semaphores":           {func(c *api.Core) { c.Counts[1], c.DownQ[0] = 1, nil }, nil, []barrier.Thing{sema(0), sema(1)}},
		"what lies in a channel":    {func(c *api.Core) { c.Bufs[2][0] = 2 }, nil, []barrier.Thing{channel(2)}},
		"less of it":                {func(c *api.Core) { c.Bufs[1] = nil }, nil, []barrier.Thing{channel(1)}},
		"who waits to send":         {func(c *api.Core) { c.SendQ[0][2] = 9 }, nil, []barrier.Thing{channel(0)}},
		"what it sends":             {func(c *api.Core) { c.SendQ[0][3] = 81 }, nil, []barrier.Thing{channel(0)}},
		"who waits to receive":      {func(c *api.Core) { c.RecvQ[1] = row(9) }, nil, []barrier.Thing{channel(1)}},
		"all of a channel":          {func(c *api.Core) { c.Bufs[1], c.SendQ[1], c.RecvQ[1] = row(1), row(2, 3), row(4) }, nil, []barrier.Thing{channel(1)}},
		"all channels":              {func(c *api.Core) { c.Bufs[2], c.SendQ[1], c.RecvQ[0] = nil, row(2, 3), row(4) }, nil, []barrier.Thing{channel(0), channel(1), channel(2)}},
		"all kinds": {
			func(c *api.Core) {
				c.RecvQ[2], c.DownQ[1], c.WaitQ[2], c.LockQ[1], c.Threads[2].Code = row(0), row(1), row(2), row(2), 0
			}, row(2), []barrier.Thing{mutex(1), cond(2), sema(1), channel(2)}},
	} {
		other := core.Clone(c)
		x.do(&other)
		isBetween(t, name, c, other, x.thread, x.things...)
		if len(other.Threads) == len(c.Threads) {
			isBetween(t, name+", and back", other, c, x.thread, x.things...)
		}
	}
}

// Nil and empty lists are one.
func TestBetweenOfEmptyLists(t *testing.T) {
	c := full(t)
	empty := core.Clone(c)
	for _, l := range listsOf(&empty) {
		if len(*l) == 0 {
			*l = []int{}
		}
	}
	empty.Threads[2].Frames = []api.Frame{}
	c.Threads[2].Frames = nil
	for _, l := range listsOf(&c) {
		if len(*l) == 0 {
			*l = nil
		}
	}
	isBetween(t, "nil, then empty", c, empty, nil)
	isBetween(t, "empty, then nil", empty, c, nil)
	isBetween(t, "none of anything", api.Core{}, api.Core{Threads: []api.Thread{}, Owners: row(), SendQ: [][]int{}}, nil)
}

// From none on all that there is now was not there.
func TestBetweenFromNone(t *testing.T) {
	want := []barrier.Thing{mutex(0), mutex(1), cond(0), cond(1), cond(2), sema(0), sema(1), channel(0), channel(1), channel(2)}
	isBetween(t, "from none", api.Core{}, full(t), row(0, 1, 2), want...)
	isBetween(t, "to none", full(t), api.Core{}, nil)
}

// What no state has (lists of other lengths than the things are) makes it not fail; what is there now, and was not so, is told.
func TestBetweenOfNoStates(t *testing.T) {
	c := full(t)
	for i := range 9 {
		other := core.Clone(c)
		lists := []*[][]int{&other.Bufs, &other.LockQ, &other.WaitQ, &other.DownQ, &other.SendQ, &other.RecvQ}
		switch {
		case i < 6:
			*lists[i] = (*lists[i])[:1]
		case i == 6:
			other.Owners = nil
		case i == 7:
			other.Counts = nil
		case i == 8:
			other.Threads = other.Threads[:1]
		}
		isBetween(t, "shorter", c, other, nil)
		threads, things := barrier.Between(other, c)
		if len(threads)+len(things) == 0 {
			t.Errorf("longer, %d: nothing changed", i)
		}
	}
}

// Threads and Things are Between of the states then and now.
func TestChangedIsBetween(t *testing.T) {
	s := sched.New(busy(t), 3, 2)
	b := barrier.New(s)
	was := s.Core()
	both := 0
	for i := range 900 {
		b.Pick(i%3, i/3)
		b.Tick(i % 5 / 4)
		threads, things := barrier.Between(was, s.Core())
		isChanged(t, "by and by", b, threads, things...)
		if len(threads) > 0 && len(things) > 0 {
			both++
		}
		if i%60 == 59 {
			remark(t, b)
			was = s.Core()
		}
		if t.Failed() {
			t.Fatalf("behind the pick %d", i)
		}
	}
	if both < 100 {
		t.Errorf("only %d times both threads and things changed, so that this test asks little", both)
	}
}

// The kinds rise from 0 on, in the chapter's row.
func TestKinds(t *testing.T) {
	got := row(barrier.Mutex, barrier.Cond, barrier.Sema, barrier.Chan)
	if !slices.Equal(got, row(0, 1, 2, 3)) {
		t.Errorf("%v", got)
	}
}
