package vm_test

import (
	"testing"

	"hibernacle/api"
	"hibernacle/stack"
	"hibernacle/vm"
)

// P5.1: Step

func TestKindsAreNumbered(t *testing.T) {
	for want, kind := range []int{
		vm.None, vm.End, vm.Yield, vm.Spawn, vm.Sleep, vm.Join, vm.Lock, vm.Unlock, vm.Wait,
		vm.Signal, vm.Broadcast, vm.Down, vm.Up, vm.Send, vm.Recv, vm.Select, vm.Print,
	} {
		if kind != want {
			t.Errorf("the kind %d is %d", want, kind)
		}
	}
}

// A numbersCase is an instruction, the numbers ahead of it, and those behind it.
type numbersCase struct {
	name string
	i    api.Instr
	was  []int
	now  []int
}

func TestNumbers(t *testing.T) {
	fifteen, sixteen := numbers(15), numbers(16)
	for _, c := range []numbersCase{
		{"push", api.Instr{Op: api.Push, A: 5}, nil, []int{5}},
		{"push of 0", api.Instr{Op: api.Push}, []int{8}, []int{8, 0}},
		{"push of the least", api.Instr{Op: api.Push, A: -most}, []int{8, 9}, []int{8, 9, -most}},
		{"push of the most", api.Instr{Op: api.Push, A: most}, []int{8, 9}, []int{8, 9, most}},
		{"push of the sixteenth", api.Instr{Op: api.Push, A: 115}, fifteen, sixteen},
		{"pop", api.Instr{Op: api.Pop}, []int{8, 9}, []int{8}},
		{"pop of the last", api.Instr{Op: api.Pop}, []int{8}, nil},
		{"pop of sixteen", api.Instr{Op: api.Pop}, sixteen, fifteen},
		{"dup", api.Instr{Op: api.Dup}, []int{8, 9}, []int{8, 9, 9}},
		{"dup of the only", api.Instr{Op: api.Dup}, []int{-8}, []int{-8, -8}},
		{"dup of fifteen", api.Instr{Op: api.Dup}, fifteen, append(numbers(15), 114)},
		{"add", api.Instr{Op: api.Add}, []int{7, 2, 3}, []int{7, 5}},
		{"add of two", api.Instr{Op: api.Add}, []int{-2, -3}, []int{-5}},
		{"add of sixteen", api.Instr{Op: api.Add}, sixteen, append(numbers(14), 229)},
		{"add to the most", api.Instr{Op: api.Add}, []int{most - 1, 1}, []int{most}},
		{"add above the most", api.Instr{Op: api.Add}, []int{most, 1}, []int{most}},
		{"add far above the most", api.Instr{Op: api.Add}, []int{most, most}, []int{most}},
		{"add below the least", api.Instr{Op: api.Add}, []int{-1, -most}, []int{-most}},
		{"add of both bounds", api.Instr{Op: api.Add}, []int{-most, most}, []int{0}},
		{"sub", api.Instr{Op: api.Sub}, []int{2, 3}, []int{-1}},
		{"sub the other way", api.Instr{Op: api.Sub}, []int{7, 3, 2}, []int{7, 1}},
		{"sub of sixteen", api.Instr{Op: api.Sub}, sixteen, append(numbers(14), -1)},
		{"sub to the least", api.Instr{Op: api.Sub}, []int{-most + 1, 1}, []int{-most}},
		{"sub below the least", api.Instr{Op: api.Sub}, []int{-most, 1}, []int{-most}},
		{"sub far below the least", api.Instr{Op: api.Sub}, []int{-most, most}, []int{-most}},
		{"sub above the most", api.Instr{Op: api.Sub}, []int{most, -1}, []int{most}},
		{"get", api.Instr{Op: api.Get, A: 0}, []int{8}, []int{8, 41}},
		{"get of another", api.Instr{Op: api.Get, A: 1}, nil, []int{-42}},
		{"get of the sixteenth", api.Instr{Op: api.Get, A: 1}, fifteen, append(numbers(15), -42)},
	} {
		p := program(api.Instr{Op: api.Exit}, c.i)
		isStep(t, c.name, p, thread(1, c.was...), thread(2, c.now...), vm.Request{})
		isStep(t, c.name, p, alone(1, c.was...), alone(2, c.now...), vm.Request{})
	}
}

func TestSet(t *testing.T) {
	p := program(api.Instr{Op: api.Set, A: 1}, api.Instr{Op: api.Set})
	isStep(t, "set", p, thread(0, 8, 9), with(thread(1, 8), func(x *api.Thread) { x.Frames[1].Locals[1] = 9 }), vm.Request{})
	isStep(t, "set of the other", p, thread(1, -most), with(thread(2), func(x *api.Thread) { x.Frames[1].Locals[0] = -most }), vm.Request{})
	isStep(t, "set of sixteen", p, thread(0, numbers(16)...), with(thread(1, numbers(15)...), func(x *api.Thread) { x.Frames[1].Locals[1] = 115 }), vm.Request{})
}

func TestJumps(t *testing.T) {
	for a := range 5 {
		p := program(api.Instr{Op: api.Yield}, api.Instr{Op: api.Jump, A: a}, api.Instr{Op: api.Zero, A: a}, api.Instr{Op: api.Exit})
		isStep(t, "jump", p, thread(1, 0, 1), thread(a, 0, 1), vm.Request{})
		isStep(t, "jump without numbers", p, thread(1), thread(a), vm.Request{})
		isStep(t, "zero of 0", p, thread(2, 5, 0), thread(a, 5), vm.Request{})
		isStep(t, "zero of the only 0", p, thread(2, 0), thread(a), vm.Request{})
		for _, v := range []int{1, -1, 5, most, -most} {
			isStep(t, "zero of another", p, thread(2, 0, v), thread(3, 0), vm.Request{})
		}
	}
}

func TestCall(t *testing.T) {
	for f, locals := range []int{2, 1, 0, 8} {
		p := program(api.Instr{Op: api.Exit}, api.Instr{Op: api.Call, A: f})
		called := func(x *api.Thread) {
			x.Frames = append(x.Frames, api.Frame{Func: f, Locals: make([]int, locals)})
		}
		isStep(t, "call", p, thread(1, 8), with(thread(2, 8), called), vm.Request{})
		isStep(t, "call of the first", p, alone(1), with(alone(2), called), vm.Request{})
		isStep(t, "call of the eighth", p, deep(7, 1, 8), with(deep(7, 2, 8), called), vm.Request{})
		isStep(t, "call of a ninth", p, deep(8, 1, 8), ended(api.Deep), vm.Request{Kind: vm.End, V: api.Deep})
	}
}

func TestRet(t *testing.T) {
	p := program(api.Instr{Op: api.Ret}, api.Instr{Op: api.Ret})
	for _, pc := range []int{0, 1} {
		for n := 2; n <= 8; n++ {
			isStep(t, "ret", p, deep(n, pc, 8, 9), with(deep(n, pc, 8, 9), func(x *api.Thread) { x.Frames = x.Frames[:n-1] }), vm.Request{})
		}
		isStep(t, "the last ret", p, alone(pc, 8, 9), ended(api.Fine), vm.Request{Kind: vm.End})
	}
}

// The frame that is left for stands at the next place, and is found there.
func TestCallAndRet(t *testing.T) {
	p := program(api.Instr{Op: api.Call, A: 1}, api.Instr{Op: api.Exit})
	x := alone(0, 8)
	for _, want := range []api.Thread{
		with(alone(1, 8), func(x *api.Thread) { x.Frames = append(x.Frames, api.Frame{Func: 1, Locals: []int{0}}) }),
		with(alone(1, 8, 70), func(x *api.Thread) { x.Frames = append(x.Frames, api.Frame{Func: 1, Pc: 1, Locals: []int{0}}) }),
		alone(1, 8, 70),
	} {
		isStep(t, "call and ret", p, x, want, vm.Request{})
		x, _ = vm.Step(p, x)
	}
	isStep(t, "exit behind them", p, x, ended(api.Fine), vm.Request{Kind: vm.End})
}

func TestExit(t *testing.T) {
	p := program(api.Instr{Op: api.Exit})
	for _, x := range []api.Thread{alone(0), thread(0, 8, 9), deep(8, 0, numbers(16)...)} {
		isStep(t, "exit", p, x, ended(api.Fine), vm.Request{Kind: vm.End, V: api.Fine})
	}
}

func TestRunOff(t *testing.T) {
	off := vm.Request{Kind: vm.End, V: api.RunOff}
	p := program(api.Instr{Op: api.Push, A: 1}, api.Instr{Op: api.Push, A: 1})
	isStep(t, "behind the end", p, thread(2, 8), ended(api.RunOff), off)
	isStep(t, "behind the end, alone", p, alone(2), ended(api.RunOff), off)
	isStep(t, "no code", program(), alone(0, numbers(16)...), ended(api.RunOff), off)
	isStep(t, "behind as much code as may be", p, with(alone(0), func(x *api.Thread) {
		x.Frames[0] = api.Frame{Func: 3, Pc: 64, Locals: numbers(8)}
	}), ended(api.RunOff), off)
	isStep(t, "the last one of as much as may be", p, with(alone(0), func(x *api.Thread) {
		x.Frames[0] = api.Frame{Func: 3, Pc: 63, Locals: numbers(8)}
	}), with(alone(0), func(x *api.Thread) {
		x.Frames[0] = api.Frame{Func: 3, Pc: 64, Locals: numbers(8)}
	}), vm.Request{Kind: vm.Yield})
}

// Those that ask for a thing, and no number.
func TestRequests(t *testing.T) {
	for _, c := range []struct{ op, kind int }{
		{api.Spawn, vm.Spawn}, {api.Lock, vm.Lock}, {api.Unlock, vm.Unlock}, {api.Wait, vm.Wait},
		{api.Signal, vm.Signal}, {api.Broadcast, vm.Broadcast}, {api.Down, vm.Down}, {api.Up, vm.Up},
		{api.Recv, vm.Recv}, {api.Select, vm.Select},
	} {
		for a := range 3 {
			p := program(api.Instr{Op: api.Exit}, api.Instr{Op: c.op, A: a})
			for _, l := range [][]int{nil, {8, 9}, numbers(16)} {
				isStep(t, "a request", p, thread(1, l...), thread(2, l...), vm.Request{Kind: c.kind, A: a})
			}
		}
	}
	p := program(api.Instr{Op: api.Yield})
	for _, l := range [][]int{nil, {8, 9}, numbers(16)} {
		isStep(t, "yield", p, thread(0, l...), thread(1, l...), vm.Request{Kind: vm.Yield})
	}
}

// Those that hand a number with it.
func TestRequestsWithANumber(t *testing.T) {
	for _, c := range []struct{ op, kind, things int }{
		{api.Sleep, vm.Sleep, 1}, {api.Join, vm.Join, 1}, {api.Print, vm.Print, 1}, {api.Send, vm.Send, 3},
	} {
		for a := range c.things {
			p := program(api.Instr{Op: api.Exit}, api.Instr{Op: c.op, A: a})
			for _, v := range []int{0, 1, -1, 5, most, -most} {
				r := vm.Request{Kind: c.kind, A: a, V: v}
				isStep(t, "a request", p, thread(1, v), thread(2), r)
				isStep(t, "a request", p, thread(1, 8, 9, v), thread(2, 8, 9), r)
			}
			isStep(t, "a request", p, thread(1, numbers(16)...), thread(2, numbers(15)...), vm.Request{Kind: c.kind, A: a, V: 115})
		}
	}
}

func TestUnder(t *testing.T) {
	under := vm.Request{Kind: vm.End, V: api.Under}
	for _, op := range []int{
		api.Pop, api.Dup, api.Add, api.Sub, api.Set, api.Zero, api.Sleep, api.Join, api.Print, api.Send,
	} {
		p := program(api.Instr{Op: op}, api.Instr{Op: op})
		isStep(t, "nothing to pop", p, thread(0), ended(api.Under), under)
		isStep(t, "nothing to pop, alone", p, alone(1), ended(api.Under), under)
	}
	for _, op := range []int{api.Add, api.Sub} {
		isStep(t, "nothing more to pop", program(api.Instr{Op: op}), thread(0, 5), ended(api.Under), under)
	}
}

func TestOver(t *testing.T) {
	over := vm.Request{Kind: vm.End, V: api.Over}
	for _, i := range []api.Instr{{Op: api.Push, A: 5}, {Op: api.Dup}, {Op: api.Get, A: 1}} {
		p := program(i)
		isStep(t, "no room to push", p, thread(0, numbers(16)...), ended(api.Over), over)
		isStep(t, "no room to push, alone", p, alone(0, numbers(16)...), ended(api.Over), over)
	}
}

// What state a thread has is not asked, nor for what it waits: both stay.
func TestStateStays(t *testing.T) {
	p := program(api.Instr{Op: api.Push, A: 5}, api.Instr{Op: api.Lock, A: 1})
	for state := range api.Dead {
		is := func(x *api.Thread) { x.State, x.On = state, -300 }
		isStep(t, "push", p, with(thread(0), is), with(thread(1, 5), is), vm.Request{})
		isStep(t, "lock", p, with(thread(1), is), with(thread(2), is), vm.Request{Kind: vm.Lock, A: 1})
		isStep(t, "run off", p, with(thread(2), is), ended(api.RunOff), vm.Request{Kind: vm.End, V: api.RunOff})
	}
}

func TestExampleOfStep(t *testing.T) {
	p := program(api.Instr{Op: api.Push, A: 2}, api.Instr{Op: api.Push, A: 3}, api.Instr{Op: api.Sub})
	x := stack.New(p, 0)
	for range 3 {
		x, _ = vm.Step(p, x)
	}
	isThread(t, "push 2, push 3, sub", x, api.Thread{Frames: []api.Frame{{Pc: 3, Locals: []int{0, 0}}}, Stack: []int{-1}})
}

// What may not be handed in makes no call fail.
func TestNothingFailsOfWhatMayNotBe(t *testing.T) {
	for _, op := range []int{-1, api.Ops, 1 << 40} {
		p := program(api.Instr{Op: op, A: -5})
		x, r := vm.Step(p, alone(0, 1))
		isThread(t, "an instruction that is none", x, alone(1, 1))
		if r != (vm.Request{}) {
			t.Errorf("an instruction that is none: %v", r)
		}
	}
	for op := range api.Ops {
		for _, a := range []int{-1, 99, 1 << 40} {
			for _, x := range []api.Thread{thread(0, 1, 2), alone(5), {}, ended(api.Fine), {Frames: []api.Frame{{Func: 9, Pc: -2}}}} {
				p := program(api.Instr{Op: op, A: a})
				vm.Step(p, x)
				vm.Run(p, x, 5)
				vm.Tell(x, a)
			}
		}
	}
	vm.Step(api.Program{}, thread(0))
}
