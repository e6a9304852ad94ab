package vm_test

import (
	"math"
	"math/rand"
	"testing"

	"hibernacle/api"
	"hibernacle/code"
	"hibernacle/stack"
	"hibernacle/vm"
)

// P5.2

// isRun asks that x runs to want, and so many steps.
func isRun(t *testing.T, name string, p api.Program, x api.Thread, n int, want api.Thread, r vm.Request, steps int) {
	t.Helper()
	in := roomy(x)
	y, got, did := vm.Run(p, in, n)
	isThread(t, name, y, want)
	if got != r || did != steps {
		t.Errorf("%s: %v behind %d, not %v behind %d", name, got, did, r, steps)
	}
	isUntouched(t, name, in, x, y)
}

func TestRunOfNoStep(t *testing.T) {
	for _, i := range []api.Instr{{Op: api.Push, A: 5}, {Op: api.Exit}, {Op: api.Yield}, {Op: api.Pop}} {
		p := program(i)
		for _, n := range []int{0, -1, -2, math.MinInt} {
			isRun(t, "no step", p, thread(0), n, thread(0), vm.Request{}, 0)
			isRun(t, "no step, behind the end", p, thread(1, 8), n, thread(1, 8), vm.Request{}, 0)
		}
	}
}

func TestRunOfSomeSteps(t *testing.T) {
	p := program(api.Instr{Op: api.Push, A: 2}, api.Instr{Op: api.Push, A: 3}, api.Instr{Op: api.Sub}, api.Instr{Op: api.Print}, api.Instr{Op: api.Exit})
	for n, want := range []api.Thread{thread(0), thread(1, 2), thread(2, 2, 3), thread(3, -1)} {
		isRun(t, "so many steps", p, thread(0), n, want, vm.Request{}, n)
	}
	for _, n := range []int{4, 5, 6, 1000, math.MaxInt32} {
		isRun(t, "as far as a request", p, thread(0), n, thread(4), vm.Request{Kind: vm.Print, V: -1}, 4)
		isRun(t, "as far as the end", p, thread(4, 8), n, ended(api.Fine), vm.Request{Kind: vm.End}, 1)
	}
}

func TestRunStopsAtEachRequest(t *testing.T) {
	for op := api.Spawn; op < api.Exit; op++ {
		p := program(api.Instr{Op: api.Dup}, api.Instr{Op: op}, api.Instr{Op: api.Push, A: 1})
		x, r := vm.Step(p, thread(1, 7, 7))
		if r.Kind == vm.None {
			t.Errorf("the instruction %d asks for nothing", op)
		}
		isRun(t, "a request", p, thread(0, 7), 9, x, r, 2)
		isRun(t, "the step ahead of it", p, thread(0, 7), 1, thread(1, 7, 7), vm.Request{}, 1)
	}
}

func TestRunStopsAtEachEnd(t *testing.T) {
	for _, c := range []struct {
		name  string
		i     api.Instr
		x     api.Thread
		steps int
		code  int
	}{
		{"fine", api.Instr{Op: api.Ret}, alone(0, 8), 1, api.Fine},
		{"under", api.Instr{Op: api.Pop}, thread(0), 1, api.Under},
		{"over", api.Instr{Op: api.Get}, thread(0, numbers(16)...), 1, api.Over},
		{"deep", api.Instr{Op: api.Call, A: 0}, alone(0), 8, api.Deep},
		{"run off", api.Instr{Op: api.Push, A: 1}, thread(0), 2, api.RunOff},
	} {
		for _, n := range []int{c.steps, c.steps + 1, 1000} {
			isRun(t, c.name, program(c.i), c.x, n, ended(c.code), vm.Request{Kind: vm.End, V: c.code}, c.steps)
		}
	}
}

func TestRunOfALoop(t *testing.T) {
	p := program(api.Instr{Op: api.Jump, A: 0})
	for _, n := range []int{1, 2, 1000, 100000} {
		isRun(t, "a loop", p, thread(0), n, thread(0), vm.Request{}, n)
	}
	// It counts the local 0 down to 0, and prints what is in the other one.
	p = program(
		api.Instr{Op: api.Get, A: 0}, api.Instr{Op: api.Zero, A: 7},
		api.Instr{Op: api.Get, A: 0}, api.Instr{Op: api.Push, A: 1}, api.Instr{Op: api.Sub}, api.Instr{Op: api.Set, A: 0},
		api.Instr{Op: api.Jump, A: 0},
		api.Instr{Op: api.Get, A: 1}, api.Instr{Op: api.Print},
	)
	end := with(thread(9), func(x *api.Thread) { x.Frames[1].Locals[0] = 0 })
	isRun(t, "a loop that ends", p, thread(0), 1000, end, vm.Request{Kind: vm.Print, V: -42}, 41*7+4)
}

// A run is its steps, one by one.
func TestRunIsItsSteps(t *testing.T) {
	r := rand.New(rand.NewSource(52))
	for range 3000 {
		p := anyProgram(r, ownOps()...)
		x := anyThread(r, p)
		n := r.Intn(60)
		want, asked, steps := x, vm.Request{}, 0
		for steps < n && asked.Kind == vm.None {
			want, asked = vm.Step(p, want)
			steps++
		}
		isRun(t, "any", p, x, n, want, asked, steps)
		// Cut in two, it is the same.
		half, at, did := vm.Run(p, x, n/2)
		if at.Kind == vm.None {
			isRun(t, "the other half", p, half, n-n/2, want, asked, steps-did)
		}
	}
}

func TestRunLeavesTheProgram(t *testing.T) {
	p := program(api.Instr{Op: api.Call, A: 1}, api.Instr{Op: api.Pop}, api.Instr{Op: api.Jump, A: 0})
	x, _, n := vm.Run(p, stack.New(p, 0), 400)
	isThread(t, "calls", x, api.Thread{Frames: []api.Frame{{Locals: []int{0, 0}}}})
	if n != 400 {
		t.Errorf("%d steps", n)
	}
	if !code.Same(p, program(api.Instr{Op: api.Call, A: 1}, api.Instr{Op: api.Pop}, api.Instr{Op: api.Jump, A: 0})) {
		t.Error("the program was changed")
	}
}
