package stack_test

import (
	"math/rand"
	"testing"

	"hibernacle/api"
	"hibernacle/stack"
)

// P4.3

func TestWhatIsPushedIsPopped(t *testing.T) {
	p := program()
	r := rand.New(rand.NewSource(43))
	for range 1000 {
		x := anyThread(r, p)
		v := anyNumber(r)
		y, ok := stack.Push(x, v)
		if ok != (len(x.Stack) < 16) {
			t.Errorf("Push onto %d: %v", len(x.Stack), ok)
		}
		if !ok {
			continue
		}
		z, n, ok := stack.Pop(y)
		if n != v || !ok {
			t.Errorf("%d was pushed, %d, %v is popped", v, n, ok)
		}
		isThread(t, "popped", z, x)
	}
}

func TestWhatIsEnteredIsLeftAsItWas(t *testing.T) {
	p := program()
	r := rand.New(rand.NewSource(44))
	for range 1000 {
		x := anyThread(r, p)
		f := r.Intn(len(p.Funcs))
		y, ok := stack.Enter(p, x, f)
		if ok != (len(x.Frames) < 8) {
			t.Errorf("Enter behind %d: %v", len(x.Frames), ok)
		}
		if !ok {
			continue
		}
		// What is done meanwhile in the frame that is left is not to be seen behind it.
		y = stack.Jump(y, len(p.Funcs[f].Code))
		for i := range p.Funcs[f].Locals {
			y = stack.Set(y, i, anyNumber(r))
		}
		z, any := stack.Leave(y)
		if !any {
			t.Error("Leave: none is left")
		}
		isThread(t, "left", z, x)
	}
}

// step does one thing of x by the package, and the same one of want, which is in memory of its own.
func step(r *rand.Rand, p api.Program, x, want api.Thread) (api.Thread, api.Thread) {
	want = copied(want)
	n := len(want.Frames) - 1
	of := p.Funcs[want.Frames[n].Func]
	switch r.Intn(6) {
	case 0:
		v := anyNumber(r)
		x, _ = stack.Push(x, v)
		if len(want.Stack) < 16 {
			want.Stack = append(want.Stack, v)
		}
	case 1:
		x, _, _ = stack.Pop(x)
		want.Stack = want.Stack[:max(len(want.Stack)-1, 0)]
	case 2:
		f := r.Intn(len(p.Funcs))
		x, _ = stack.Enter(p, x, f)
		if n < 7 {
			want.Frames = append(want.Frames, api.Frame{Func: f, Locals: make([]int, p.Funcs[f].Locals)})
		}
	case 3:
		if n > 0 {
			x, _ = stack.Leave(x)
			want.Frames = want.Frames[:n]
		}
	case 4:
		pc := r.Intn(len(of.Code) + 1)
		x = stack.Jump(x, pc)
		want.Frames[n].Pc = pc
	case 5:
		if of.Locals > 0 {
			i, v := r.Intn(of.Locals), anyNumber(r)
			x = stack.Set(x, i, v)
			want.Frames[n].Locals[i] = v
		}
	}
	return x, want
}

// Threads that are made of one another share memory; none may be seen to change when another one goes on, however their ways part.
func TestAllThreadsOfATreeStayAsTheyWere(t *testing.T) {
	p := program()
	for seed := range int64(20) {
		r := rand.New(rand.NewSource(seed))
		all := []api.Thread{stack.New(p, r.Intn(len(p.Funcs)))}
		wants := []api.Thread{copied(all[0])}
		for range 600 {
			i := max(len(all)-1-r.Intn(5), 0)
			x, want := step(r, p, all[i], wants[i])
			all, wants = append(all, x), append(wants, want)
		}
		for i, x := range all {
			isThread(t, "a thread of the tree", x, wants[i])
			if !stack.May(p, x) {
				t.Errorf("%v is none that may be", x)
			}
		}
	}
}
