package vm_test

import (
	"math/rand"
	"testing"

	"hibernacle/api"
	"hibernacle/code"
	"hibernacle/stack"
	"hibernacle/vm"
)

// P5.3

// A thread that steps may be, whatever its program and wherever it stands; what is handed in stays as it was.
func TestThreadsThatStepMayBe(t *testing.T) {
	r := rand.New(rand.NewSource(53))
	for range 20000 {
		p := anyProgram(r, allOps()...)
		if !code.May(p) {
			t.Fatalf("what this test leans on is no program: %v", p)
		}
		x := anyThread(r, p)
		ahead := code.Clone(p)
		in := roomy(x)
		y, _ := vm.Step(p, in)
		if !stack.May(p, y) {
			t.Errorf("%v steps to %v, which may not be", x, y)
		}
		isUntouched(t, "Step", in, x, y)
		in = roomy(x)
		y, _ = vm.Tell(in, anyNumbers(r, r.Intn(4))...)
		if !stack.May(p, y) {
			t.Errorf("%v is told to be %v, which may not be", x, y)
		}
		isUntouched(t, "Tell", in, x, y)
		if !code.Same(p, ahead) {
			t.Fatal("the program was changed")
		}
	}
}

// model is a step as the chapter's table has it, of a thread in memory of its own; it leans on nothing of the program but its names.
func model(p api.Program, t api.Thread) (api.Thread, vm.Request) {
	t = copied(t)
	f := &t.Frames[len(t.Frames)-1]
	of := p.Funcs[f.Func]
	if f.Pc == len(of.Code) {
		return ended(api.RunOff), vm.Request{Kind: vm.End, V: api.RunOff}
	}
	i := of.Code[f.Pc]
	f.Pc++
	takes := map[int]int{
		api.Pop: 1, api.Dup: 1, api.Add: 2, api.Sub: 2, api.Set: 1, api.Zero: 1,
		api.Sleep: 1, api.Join: 1, api.Print: 1, api.Send: 1,
	}[i.Op]
	least := len(t.Stack) - takes
	if least < 0 {
		return ended(api.Under), vm.Request{Kind: vm.End, V: api.Under}
	}
	taken := append([]int{0}, t.Stack[least:]...)
	t.Stack = t.Stack[:least]
	v := taken[len(taken)-1]
	switch i.Op {
	case api.Push:
		t.Stack = append(t.Stack, i.A)
	case api.Dup:
		t.Stack = append(t.Stack, v, v)
	case api.Add:
		t.Stack = append(t.Stack, bound(taken[1]+v))
	case api.Sub:
		t.Stack = append(t.Stack, bound(taken[1]-v))
	case api.Get:
		t.Stack = append(t.Stack, f.Locals[i.A])
	case api.Set:
		f.Locals[i.A] = v
	case api.Jump:
		f.Pc = i.A
	case api.Zero:
		if v == 0 {
			f.Pc = i.A
		}
	case api.Call:
		t.Frames = append(t.Frames, api.Frame{Func: i.A, Locals: make([]int, p.Funcs[i.A].Locals)})
	case api.Ret:
		t.Frames = t.Frames[:len(t.Frames)-1]
	case api.Exit:
		t.Frames = nil
	}
	return modelEnd(t, asks(i, v))
}

// modelEnd is the thread, or its end, if it is without frames, or has too much.
func modelEnd(t api.Thread, r vm.Request) (api.Thread, vm.Request) {
	c := api.Fine
	switch {
	case len(t.Stack) > 16:
		c = api.Over
	case len(t.Frames) > 8:
		c = api.Deep
	case len(t.Frames) > 0:
		return t, r
	}
	return ended(c), vm.Request{Kind: vm.End, V: c}
}

// asks is what an instruction asks for, v being the number that it took.
func asks(i api.Instr, v int) vm.Request {
	switch i.Op {
	case api.Yield:
		return vm.Request{Kind: vm.Yield}
	case api.Sleep:
		return vm.Request{Kind: vm.Sleep, V: v}
	case api.Join:
		return vm.Request{Kind: vm.Join, V: v}
	case api.Print:
		return vm.Request{Kind: vm.Print, V: v}
	case api.Send:
		return vm.Request{Kind: vm.Send, A: i.A, V: v}
	}
	kinds := map[int]int{
		api.Spawn: vm.Spawn, api.Lock: vm.Lock, api.Unlock: vm.Unlock, api.Wait: vm.Wait, api.Signal: vm.Signal,
		api.Broadcast: vm.Broadcast, api.Down: vm.Down, api.Up: vm.Up, api.Recv: vm.Recv, api.Select: vm.Select,
	}
	if kind, ok := kinds[i.Op]; ok {
		return vm.Request{Kind: kind, A: i.A}
	}
	return vm.Request{}
}

// bound is the number that is kept.
func bound(n int) int {
	return max(min(n, most), -most)
}

// Threads go their ways as the model's do, as long as they are not over.
func TestStepsAreTheModels(t *testing.T) {
	r := rand.New(rand.NewSource(54))
	ends := map[int]int{}
	for range 4000 {
		ops := allOps()
		if r.Intn(2) == 0 {
			ops = ownOps()
		}
		p := anyProgram(r, ops...)
		x := anyThread(r, p)
		if r.Intn(2) == 0 {
			x = stack.New(p, 0)
		}
		for range 50 {
			want, asked := model(p, x)
			y, got := vm.Step(p, x)
			isThread(t, "a step", y, want)
			if got != asked {
				t.Fatalf("a step of %v asks for %v, not %v", x, got, asked)
			}
			if got.Kind == vm.End {
				ends[got.V]++
				break
			}
			x = y
		}
	}
	for _, c := range []int{api.Fine, api.Under, api.Over, api.Deep, api.RunOff} {
		if ends[c] == 0 {
			t.Errorf("no thread ended with the code %d, so that these ways were not gone", c)
		}
	}
}
