package stack_test

import (
	"math"
	"math/rand"
	"reflect"
	"testing"

	"hibernacle/api"
	"hibernacle/stack"
)

// P4.1

// asked asks of a thread whether it may be in program.
func asked(t *testing.T, name string, x api.Thread, want bool) {
	t.Helper()
	ahead := copied(x)
	if may := stack.May(program(), x); may != want {
		t.Errorf("%s: May tells %v of %v", name, may, x)
	}
	if !equal(x, ahead) {
		t.Errorf("%s: the thread was changed", name)
	}
}

// between asks that put makes a thread that may be just of the numbers from least to most.
func between(t *testing.T, name string, least, most int, put func(n int) api.Thread) {
	t.Helper()
	for _, n := range append([]int{least - 1, least, least + 1, most - 1, most, most + 1, 0, -1}, far...) {
		asked(t, name, put(n), least <= n && n <= most)
	}
}

// counted asks that put makes a thread that may be just of the numbers from least to most; of lengths, so from 0 on.
func counted(t *testing.T, name string, least, most int, put func(n int) api.Thread) {
	t.Helper()
	for n := range 70 {
		asked(t, name, put(n), least <= n && n <= most)
	}
}

func TestKeep(t *testing.T) {
	const most = 1 << 30
	for _, c := range []struct{ n, want int }{
		{0, 0}, {1, 1}, {-1, -1}, {300, 300},
		{most - 1, most - 1}, {most, most}, {most + 1, most}, {1 << 31, most}, {1<<32 + 5, most}, {math.MaxInt, most},
		{-most + 1, -most + 1}, {-most, -most}, {-most - 1, -most}, {-1 << 31, -most}, {-1<<32 - 5, -most}, {math.MinInt, -most},
	} {
		if n := stack.Keep(c.n); n != c.want {
			t.Errorf("Keep(%d): %d, not %d", c.n, n, c.want)
		}
	}
}

func TestNew(t *testing.T) {
	p := program()
	for f, of := range p.Funcs {
		want := api.Thread{State: api.Ready, Frames: []api.Frame{{Func: f, Locals: make([]int, of.Locals)}}}
		x := stack.New(p, f)
		isThread(t, "New", x, want)
		if !stack.May(p, x) {
			t.Errorf("New(%d) is none that may be", f)
		}
		grow(x)
		for i := range x.Frames[0].Locals {
			x.Frames[0].Locals[i] = 9
		}
		isThread(t, "another New", stack.New(p, f), want)
	}
	if !reflect.DeepEqual(p, program()) {
		t.Error("the program was changed")
	}
}

func TestNoCallFailsOfFunctionsThatThereAreNot(t *testing.T) {
	p := program()
	for _, f := range append([]int{-1, len(p.Funcs), len(p.Funcs) + 1}, far...) {
		isThread(t, "New", stack.New(p, f), api.Thread{})
		x, ok := stack.Enter(p, whole(), f)
		if ok {
			t.Errorf("Enter(%d): true", f)
		}
		isThread(t, "Enter", x, whole())
	}
	for _, n := range append([]int{-1, api.MaxLocals + 1}, far...) {
		p.Funcs[0].Locals = n
		isThread(t, "New", stack.New(p, 0), api.Thread{})
		x, ok := stack.Enter(p, whole(), 0)
		if ok {
			t.Errorf("Enter of %d locals: true", n)
		}
		isThread(t, "Enter", x, whole())
	}
}

func TestThreadsThatMayBe(t *testing.T) {
	asked(t, "whole", whole(), true)
	asked(t, "dead", dead(), true)
	asked(t, "zero", api.Thread{}, false)
	asked(t, "least", api.Thread{Frames: []api.Frame{{Func: 2}}}, true)
	asked(t, "empty lists", api.Thread{Frames: []api.Frame{{Func: 2, Locals: []int{}}}, Stack: []int{}}, true)
	asked(t, "empty lists of a dead one", api.Thread{State: api.Dead, Frames: []api.Frame{}, Stack: []int{}}, true)
	r := rand.New(rand.NewSource(4))
	for range 500 {
		asked(t, "any", anyThread(r, program()), true)
	}
}

func TestNoThreadMayBeWithoutFunctions(t *testing.T) {
	x := api.Thread{Frames: []api.Frame{{}}}
	if stack.May(api.Program{}, x) {
		t.Error("a frame of no function may be")
	}
}

func TestStates(t *testing.T) {
	between(t, "State with frames", 0, 8, func(n int) api.Thread {
		return wholeWith(func(x *api.Thread) { x.State = n })
	})
	between(t, "State without frames", 9, 9, func(n int) api.Thread {
		return deadWith(func(x *api.Thread) { x.State, x.Code = n, 0 })
	})
	between(t, "State without frames, with numbers", 1, 0, func(n int) api.Thread {
		return deadWith(func(x *api.Thread) { x.State, x.Code, x.Stack = n, 0, []int{1} })
	})
}

func TestFrames(t *testing.T) {
	counted(t, "frames", 1, 8, func(n int) api.Thread {
		return wholeWith(func(x *api.Thread) {
			x.Frames = nil
			for range n {
				x.Frames = append(x.Frames, api.Frame{Func: 0, Locals: []int{1, 2}})
			}
		})
	})
	counted(t, "frames of a dead one", 0, 0, func(n int) api.Thread {
		return deadWith(func(x *api.Thread) {
			for range n {
				x.Frames = append(x.Frames, api.Frame{Func: 0, Locals: []int{1, 2}})
			}
		})
	})
	for i := range whole().Frames {
		between(t, "Func", 2, 2, func(n int) api.Thread {
			return wholeWith(func(x *api.Thread) { x.Frames[i] = api.Frame{Func: n} })
		})
		for f, of := range program().Funcs {
			between(t, "Pc", 0, len(of.Code), func(n int) api.Thread {
				return wholeWith(func(x *api.Thread) {
					x.Frames[i] = api.Frame{Func: f, Pc: n, Locals: make([]int, of.Locals)}
				})
			})
			counted(t, "locals", of.Locals, of.Locals, func(n int) api.Thread {
				return wholeWith(func(x *api.Thread) { x.Frames[i] = api.Frame{Func: f, Locals: make([]int, n)} })
			})
		}
	}
}

func TestStack(t *testing.T) {
	counted(t, "numbers", 0, 16, func(n int) api.Thread {
		return wholeWith(func(x *api.Thread) { x.Stack = make([]int, n) })
	})
	counted(t, "numbers of a dead one", 0, 0, func(n int) api.Thread {
		return deadWith(func(x *api.Thread) { x.Stack = make([]int, n) })
	})
}

func TestNumbersAreSuchAsAreKept(t *testing.T) {
	const most = 1 << 30
	between(t, "On", -most, most, func(n int) api.Thread {
		return wholeWith(func(x *api.Thread) { x.On = n })
	})
	between(t, "On of a dead one", -most, most, func(n int) api.Thread {
		return deadWith(func(x *api.Thread) { x.On = n })
	})
	for i := range whole().Stack {
		between(t, "a number", -most, most, func(n int) api.Thread {
			return wholeWith(func(x *api.Thread) { x.Stack[i] = n })
		})
	}
	for i, f := range whole().Frames {
		for j := range f.Locals {
			between(t, "a local", -most, most, func(n int) api.Thread {
				return wholeWith(func(x *api.Thread) { x.Frames[i].Locals[j] = n })
			})
		}
	}
}

func TestCodes(t *testing.T) {
	between(t, "Code of a dead one", 0, 6, func(n int) api.Thread {
		return deadWith(func(x *api.Thread) { x.Code = n })
	})
	for state := range api.Dead {
		between(t, "Code of another one", 0, 0, func(n int) api.Thread {
			return wholeWith(func(x *api.Thread) { x.State, x.Code = state, n })
		})
	}
}

// calls is each call that makes a thread of another one.
var calls = []struct {
	name string
	do   func(p api.Program, x api.Thread) api.Thread
}{
	{"Push", func(p api.Program, x api.Thread) api.Thread { x, _ = stack.Push(x, 77); return x }},
	{"Pop", func(p api.Program, x api.Thread) api.Thread { x, _, _ = stack.Pop(x); return x }},
	{"Enter", func(p api.Program, x api.Thread) api.Thread { x, _ = stack.Enter(p, x, 3); return x }},
	{"Leave", func(p api.Program, x api.Thread) api.Thread { x, _ = stack.Leave(x); return x }},
	{"Jump", func(p api.Program, x api.Thread) api.Thread { return stack.Jump(x, 1) }},
	{"Set", func(p api.Program, x api.Thread) api.Thread { return stack.Set(x, 0, 77) }},
	{"Set of none", func(p api.Program, x api.Thread) api.Thread { return stack.Set(x, -1, 77) }},
	{"End", func(p api.Program, x api.Thread) api.Thread { return stack.End(x, api.Deep) }},
	{"Clone", func(p api.Program, x api.Thread) api.Thread { return stack.Clone(x) }},
}

func TestNoThreadThatIsHandedInIsChanged(t *testing.T) {
	p := program()
	r := rand.New(rand.NewSource(41))
	all := []api.Thread{whole(), dead(), stack.New(p, 0), {}}
	for range 100 {
		all = append(all, anyThread(r, p))
	}
	for _, x := range all {
		for _, c := range calls {
			in := roomy(x)
			out := c.do(p, in)
			if !equal(in, x) || !roomIsMarked(in) {
				t.Errorf("%s of %v changes it", c.name, x)
			}
			want := copied(out)
			grow(out)
			if !equal(in, x) || !roomIsMarked(in) {
				t.Errorf("%s of %v: it has room of what it was made of", c.name, x)
			}
			grow(in)
			isThread(t, c.name+", once the other one grew", out, want)
		}
	}
	if !reflect.DeepEqual(p, program()) {
		t.Error("the program was changed")
	}
}

func TestTwoOfOneThreadDoNotMeet(t *testing.T) {
	p := program()
	for _, x := range []api.Thread{whole(), stack.New(p, 0), roomy(whole())} {
		x, _ = stack.Push(x, 1)
		x, _ = stack.Enter(p, x, 0)
		a, _ := stack.Push(x, 2)
		b, _ := stack.Push(x, 3)
		isThread(t, "Push", a, wholeOf(x, func(c *api.Thread) { c.Stack = append(c.Stack, 2) }))
		isThread(t, "Push", b, wholeOf(x, func(c *api.Thread) { c.Stack = append(c.Stack, 3) }))
		a, _ = stack.Enter(p, x, 2)
		b, _ = stack.Enter(p, x, 3)
		isThread(t, "Enter", a, wholeOf(x, func(c *api.Thread) { c.Frames = append(c.Frames, api.Frame{Func: 2}) }))
		isThread(t, "Enter", b, wholeOf(x, func(c *api.Thread) {
			c.Frames = append(c.Frames, api.Frame{Func: 3, Locals: make([]int, 8)})
		}))
		n := len(x.Frames) - 1
		a, b = stack.Set(x, 0, 8), stack.Set(x, 1, 9)
		isThread(t, "Set", a, wholeOf(x, func(c *api.Thread) { c.Frames[n].Locals[0] = 8 }))
		isThread(t, "Set", b, wholeOf(x, func(c *api.Thread) { c.Frames[n].Locals[1] = 9 }))
		a, b = stack.Jump(x, 1), stack.Jump(x, 2)
		isThread(t, "Jump", a, wholeOf(x, func(c *api.Thread) { c.Frames[n].Pc = 1 }))
		isThread(t, "Jump", b, wholeOf(x, func(c *api.Thread) { c.Frames[n].Pc = 2 }))
	}
}

// wholeOf is a copy of x, changed.
func wholeOf(x api.Thread, change func(c *api.Thread)) api.Thread {
	c := copied(x)
	change(&c)
	return c
}
