package follow_test

import (
	"maps"
	"math"
	"slices"
	"strconv"
	"testing"

	"hibernacle/api"
	"hibernacle/core"
	"hibernacle/follow"
)

// P12.2

// standing is a state at the tick 40, of threads in these states; one that sleeps does so till the tick 50, and its number less.
func standing(l ...int) api.Core {
	c := api.Core{Now: 40}
	for t, state := range l {
		x := api.Thread{State: state}
		switch state {
		case api.Ready:
			x.Frames = []api.Frame{{Locals: []int{0}}}
		case api.Sleeping:
			x.Frames, x.On = []api.Frame{{Locals: []int{0}}}, 50-t
		case api.Dead:
			x.Code = t % api.Codes
		default:
			x.Frames = []api.Frame{{Locals: []int{0}}}
		}
		c.Threads = append(c.Threads, x)
	}
	return c
}

// offers asks what All tells of a state, and so Any, twice, and that the state is not changed.
func offers(t *testing.T, name string, p api.Program, c api.Core, want []follow.Move) {
	t.Helper()
	given := roomyCore(c)
	for range 2 {
		l := follow.All(p, given)
		if !slices.Equal(l, want) {
			t.Errorf("%s: All: %v, not %v", name, l, want)
		}
		over(l, follow.Move{Kind: mark})
		first, ok := follow.Any(p, given)
		if ok != (len(want) > 0) || !ok && first != (follow.Move{}) || ok && first != want[0] {
			t.Errorf("%s: Any: %v, %v, of %v", name, first, ok, want)
		}
	}
	if !core.Same(given, c) || !isMarked(given) {
		t.Errorf("%s: the state is changed", name)
	}
}

func TestAnyAndAll(t *testing.T) {
	p := program(t, in(api.Exit, 0))
	for _, x := range []struct {
		name   string
		states []int
		want   []follow.Move
	}{
		{"one", []int{api.Ready}, steps(0)},
		{"all, as they rise", []int{api.Ready, api.Ready, api.Ready}, steps(0, 1, 2)},
		{"the least one", []int{api.Dead, api.Locking, api.Ready, api.Joining, api.Ready}, steps(2, 4)},
		{"one that sleeps", []int{api.Sleeping}, ticks(10)},
		{"the first one to wake", []int{api.Sleeping, api.Dead, api.Sleeping, api.Waiting}, ticks(8)},
		{"steps ahead of ticks", []int{api.Sleeping, api.Ready, api.Sleeping, api.Ready}, moves(steps(1, 3), ticks(8))},
		{"ticks behind a step", []int{api.Ready, api.Sleeping}, moves(steps(0), ticks(9))},
		{"all states", []int{0, 1, 2, 3, 4, 5, 6, 7, 8, 9}, moves(steps(0), ticks(9))},
		{"all that wait for others", []int{2, 3, 4, 5, 6, 7, 8, 9}, nil},
		{"all are over", []int{api.Dead, api.Dead}, nil},
	} {
		offers(t, x.name, p, standing(x.states...), x.want)
	}
	for state := api.Joining; state < api.States; state++ {
		offers(t, "the state "+strconv.Itoa(state), p, standing(state), nil)
		offers(t, "the state "+strconv.Itoa(state)+", and a step", p, standing(state, api.Ready, state), steps(1))
		offers(t, "the state "+strconv.Itoa(state)+", and one that sleeps", p, standing(state, api.Sleeping, state), ticks(9))
	}
	var many []int
	for n := range api.MaxThreads {
		many = append(many, n)
	}
	offers(t, "as many as there may be", p, standing(make([]int, api.MaxThreads)...), steps(many...))
}

// Ticks are told as how many there are from now on, not as the tick itself.
func TestAnyUpToNext(t *testing.T) {
	p := program(t, in(api.Exit, 0))
	for _, x := range []struct{ now, on, other, n int }{
		{0, 1, 2, 1}, {0, most, most, most}, {1, most, most, most - 1}, {most - 1, most, most, 1}, {100, 103, 101, 1}, {100, 102, 103, 2}, {7, 9, 9, 2},
	} {
		c := standing(api.Sleeping, api.Dead, api.Sleeping)
		c.Now, c.Threads[0].On, c.Threads[2].On = x.now, x.on, x.other
		offers(t, "from "+strconv.Itoa(x.now), p, c, ticks(x.n))
	}
}

func TestAnyOfAProgram(t *testing.T) {
	p := sleeper(t)
	c := core.New(p)
	offers(t, "the beginning", p, c, steps(0))
	c, _ = told(t, p, c, moves(ticks(5), steps(0, 0, 0, 0), ticks(1)), 6)
	offers(t, "it sleeps", p, c, ticks(2))
	c, _ = told(t, p, c, ticks(2), 1)
	offers(t, "it is woken", p, c, steps(0))
	c, _ = told(t, p, c, steps(0, 0, 0), 3)
	offers(t, "it is over", p, c, nil)
}

// many is events of some threads, one among them of none that there may be, and of kinds that are none.
func many() []api.Event {
	return events(printed(0, 5), spawned(0, 1), printed(1, 6), printed(0, 7), ended(1, 4), api.Event{Kind: 3, Thread: 1, N: 8}, api.Event{Kind: -1, Thread: 1, N: 9},
		printed(1, 6), printed(0, -most), ended(0, 0), printed(-3, 2), ended(2, 6), ended(1, 2), printed(2, 0), spawned(2, 3), ended(-1, math.MinInt))
}

func TestOut(t *testing.T) {
	for who, want := range map[int][]int{0: {5, 7, -most}, 1: {6, 6}, 2: {0}, 3: nil, -1: nil, -3: {2}, math.MaxInt: nil, math.MinInt: nil} {
		seen := roomy(many(), printed(who, mark))
		for range 2 {
			l := follow.Out(seen, who)
			if !slices.Equal(l, want) {
				t.Errorf("Out of %d: %v, not %v", who, l, want)
			}
			over(l, mark)
		}
		if !slices.Equal(seen, many()) {
			t.Errorf("Out of %d: what was handed in is changed", who)
		}
	}
	for _, seen := range [][]api.Event{nil, {}, {spawned(0, 1), ended(0, 2)}} {
		if l := follow.Out(seen, 0); len(l) > 0 {
			t.Errorf("Out of %v: %v", seen, l)
		}
	}
}

func TestCodes(t *testing.T) {
	for _, x := range []struct {
		seen []api.Event
		want map[int]int
	}{
		{many(), map[int]int{0: 0, 1: 2, 2: 6, -1: math.MinInt}},
		{many()[:12], map[int]int{0: 0, 1: 4, 2: 6}},
		{many()[:4], nil},
		{nil, nil},
		{[]api.Event{}, nil},
		{events(ended(0, 3), ended(0, 1), ended(0, 2)), map[int]int{0: 2}},
		{events(ended(0, 3), ended(0, 0)), map[int]int{0: 0}},
		{events(ended(31, 6), printed(31, 1), spawned(31, 2)), map[int]int{31: 6}},
	} {
		seen := roomy(x.seen, ended(0, mark))
		for range 2 {
			codes := follow.Codes(seen)
			if !maps.Equal(codes, x.want) {
				t.Errorf("Codes of %v: %v, not %v", x.seen, codes, x.want)
			}
			for who := range codes {
				codes[who] = mark
			}
		}
		if !slices.Equal(seen, x.seen) {
			t.Errorf("Codes of %v: what was handed in is changed", x.seen)
		}
	}
}

func TestShow(t *testing.T) {
	for want, e := range map[string]api.Event{
		"printed 0 5": printed(0, 5), "spawned 0 1": spawned(0, 1), "ended 0 6": ended(0, 6), "printed 0 0": {},
		"spawned 31 -1": spawned(31, -1), "printed 10 1073741824": printed(10, most), "printed 7 -1073741824": printed(7, -most), "ended -1 -10": ended(-1, -10),
		"printed -9223372036854775808 9223372036854775807": printed(math.MinInt, math.MaxInt),
		"ended 9223372036854775807 -9223372036854775808":   ended(math.MaxInt, math.MinInt),
	} {
		if got := follow.Show(e); got != want {
			t.Errorf("Show of %v: %q, not %q", e, got, want)
		}
	}
	for _, kind := range append([]int{3, 4, 5, 255, 256}, far...) {
		if got := follow.Show(api.Event{Kind: kind, Thread: 1, N: 2}); got != "" {
			t.Errorf("Show of the kind %d: %q", kind, got)
		}
	}
}
