package core_test

import (
	"math"
	"slices"
	"testing"

	"hibernacle/api"
	"hibernacle/core"
)

// P11.1: Tick

// ticks asks Tick of a state.
func ticks(t *testing.T, name string, c api.Core, n int, want api.Core, woken ...int) {
	t.Helper()
	in := roomyCore(c)
	out, l := core.Tick(in, n)
	again, _ := core.Tick(in, n)
	if !slices.Equal(l, woken) {
		t.Errorf("%s: %d ticks: %v woken, not %v", name, n, l, woken)
	}
	isCore(t, name, out, want)
	isUntouched(t, name, in, c, out)
	isOwn(t, name, again)
}

// sleeping is a state at a tick, in which a thread sleeps for each of ons that is above 0.
func sleeping(t *testing.T, now int, ons ...int) api.Core {
	t.Helper()
	c := stand(t, program(make([][]api.Instr, len(ons))...))
	c.Now = now
	for i, on := range ons {
		if on > 0 {
			c.Threads[i].State, c.Threads[i].On = api.Sleeping, on
		}
	}
	return c
}

// later is c at another tick, at which some are woken.
func later(c api.Core, now int, l ...int) api.Core {
	return with(c, func(c *api.Core) {
		c.Now = now
		ready(c, l...)
	})
}

func TestTick(t *testing.T) {
	c := sleeping(t, 10, 0, 30, 12, 30, 11, 12, 29)
	ticks(t, "none is due", c, 0, c)
	ticks(t, "the first one", c, 1, later(c, 11, 4), 4)
	ticks(t, "as their ticks rise", c, 2, later(c, 12, 4, 2, 5), 4, 2, 5)
	ticks(t, "a tick ahead", c, 18, later(c, 28, 4, 2, 5), 4, 2, 5)
	ticks(t, "one more", c, 19, later(c, 29, 4, 2, 5, 6), 4, 2, 5, 6)
	ticks(t, "all", c, 20, later(c, 30, 4, 2, 5, 6, 1, 3), 4, 2, 5, 6, 1, 3)
	ticks(t, "far behind", c, 1000, later(c, 1010, 4, 2, 5, 6, 1, 3), 4, 2, 5, 6, 1, 3)
}

func TestNoTicks(t *testing.T) {
	c := sleeping(t, 5, 6, 0, 7)
	for _, n := range []int{0, -1, -5, -6, -most, math.MinInt, math.MinInt + 1} {
		ticks(t, "no ticks", c, n, c)
	}
}

// The tick goes no further than the last one, however many go by.
func TestTicksUpToTheLast(t *testing.T) {
	c := sleeping(t, 5, most, most-1, 0)
	ticks(t, "one ahead of the last", c, most-6, later(c, most-1, 1), 1)
	ticks(t, "the last", c, most-5, later(c, most, 1, 0), 1, 0)
	for _, n := range []int{most - 4, most, most + 1, 1 << 31, 1 << 32, 1 << 62, math.MaxInt - 5, math.MaxInt - 4, math.MaxInt} {
		ticks(t, "behind the last", c, n, later(c, most, 1, 0), 1, 0)
	}
	c = sleeping(t, most, 0, 0)
	for _, n := range []int{1, 2, most, math.MaxInt - most, math.MaxInt - most + 1, math.MaxInt} {
		ticks(t, "at the last", c, n, c)
	}
}

// Ticks wake those alone that sleep, whatever the others are On.
func TestTicksAreForThoseThatSleep(t *testing.T) {
	c := sleeping(t, 5, 0, 0, 0, 0, 0, 0, 0, 0, 0, 0)
	for state := range api.States {
		c.Threads[state].State = state
		if state != api.Ready && state != api.Dead {
			c.Threads[state].On = state % 3
		}
	}
	c.Threads[api.Sleeping].On = 8
	ticks(t, "others", c, 2, later(c, 7))
	ticks(t, "others", c, 3, later(c, 8, api.Sleeping), api.Sleeping)
}

// One that sleeps goes on where it stood, and a tick is as long as many are: one behind the other, or all at once.
func TestTicksOneByOne(t *testing.T) {
	p := program(in(api.Push, 3, api.Sleep, 0, api.Push, 4, api.Print, 0))
	c := goes(t, "to sleep", p, stand(t, p), going{stack: []int{3}}, going{state: api.Sleeping, on: 3})
	once, l := core.Tick(c, 3)
	if !slices.Equal(l, []int{0}) {
		t.Errorf("woken: %v", l)
	}
	for i := range 3 {
		c, l = core.Tick(c, 1)
		if (i == 2) != slices.Equal(l, []int{0}) {
			t.Errorf("the tick %d: woken: %v", i, l)
		}
	}
	isCore(t, "one by one", c, once)
	goes(t, "behind that", p, c, going{stack: []int{4}}, going{seen: events(printed(0, 4))})
}
