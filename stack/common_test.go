package stack_test

import (
	"math"
	"math/rand"
	"reflect"
	"testing"

	"hibernacle/api"
	"hibernacle/code"
)

// far is numbers that lie far out of all bounds, and some between.
var far = []int{math.MinInt, math.MinInt + 1, -1 << 61, -1 << 32, 1 << 31, 1 << 32, 1<<32 + 1, 1 << 61, math.MaxInt - 1, math.MaxInt}

// program is one whose functions have other numbers of locals and of instructions each: without code, without locals, with as many as may be.
func program() api.Program {
	most := make([]api.Instr, api.MaxCode)
	for i := range most {
		most[i] = api.Instr{Op: api.Push, A: 1000 + i}
	}
	return api.Program{
		Funcs: []api.Func{
			{Locals: 2, Code: []api.Instr{{Op: api.Push, A: -7}, {Op: api.Call, A: 2}, {Op: api.Exit}}},
			{Locals: 5},
			{Locals: 0, Code: []api.Instr{{Op: api.Ret}}},
			{Locals: 8, Code: most},
		},
		Threads: 4,
	}
}

// whole is a thread of program in which everything stands: several frames, locals and numbers.
func whole() api.Thread {
	return api.Thread{
		State: api.Sleeping,
		On:    300,
		Frames: []api.Frame{
			{Func: 0, Pc: 2, Locals: []int{11, -12}},
			{Func: 2, Pc: 1},
			{Func: 3, Pc: 64, Locals: []int{1, 2, 3, 4, 5, 6, 7, 8}},
			{Func: 0, Pc: 0, Locals: []int{21, 22}},
		},
		Stack: []int{5, -6, 7},
	}
}

// dead is a thread that is over.
func dead() api.Thread {
	return api.Thread{State: api.Dead, Code: api.Deep}
}

// wholeWith is the whole thread, changed.
func wholeWith(change func(t *api.Thread)) api.Thread {
	t := whole()
	change(&t)
	return t
}

// deadWith is a thread that is over, changed.
func deadWith(change func(t *api.Thread)) api.Thread {
	t := dead()
	change(&t)
	return t
}

// copied is t in other memory, where nil and empty lists are one. It leans on nothing of the package.
func copied(t api.Thread) api.Thread {
	c := t
	c.Stack = append([]int{}, t.Stack...)
	c.Frames = append([]api.Frame{}, t.Frames...)
	for i, f := range t.Frames {
		c.Frames[i].Locals = append([]int{}, f.Locals...)
	}
	return c
}

// equal tells whether two threads are one, by nothing of the package.
func equal(a, b api.Thread) bool {
	return reflect.DeepEqual(copied(a), copied(b))
}

// isThread asks that got is want.
func isThread(t *testing.T, name string, got, want api.Thread) {
	t.Helper()
	if !equal(got, want) {
		t.Errorf("%s: %v, not %v", name, got, want)
	}
}

// mark stands in all spare room, where nothing that the package does may reach.
const mark = -987654321

// roomy is t in other memory, each list with room behind it, all marked.
func roomy(t api.Thread) api.Thread {
	c := t
	c.Stack = roomyNumbers(t.Stack)
	c.Frames = append(make([]api.Frame, 0, len(t.Frames)+5), t.Frames...)
	for i, f := range c.Frames {
		c.Frames[i].Locals = roomyNumbers(f.Locals)
	}
	for i := range spare(c.Frames) {
		spare(c.Frames)[i] = api.Frame{Func: mark, Pc: mark}
	}
	return c
}

// roomyNumbers is l in other memory, with marked room behind it.
func roomyNumbers(l []int) []int {
	c := append(make([]int, 0, len(l)+5), l...)
	for i := range spare(c) {
		spare(c)[i] = mark
	}
	return c
}

// spare is the room behind l.
func spare[T any](l []T) []T {
	return l[len(l):cap(l)]
}

// roomIsMarked tells whether all room of a roomy thread is as it was.
func roomIsMarked(t api.Thread) bool {
	ok := numbersAreMarked(spare(t.Stack))
	for _, f := range t.Frames {
		ok = ok && numbersAreMarked(spare(f.Locals))
	}
	for _, f := range spare(t.Frames) {
		ok = ok && f.Func == mark && f.Pc == mark && f.Locals == nil
	}
	return ok
}

// numbersAreMarked tells whether all of l are marks.
func numbersAreMarked(l []int) bool {
	for _, n := range l {
		if n != mark {
			return false
		}
	}
	return true
}

// grow puts something behind each list of t, and into all room that it has.
func grow(t api.Thread) {
	_ = append(t.Stack, 1, 2, 3)
	_ = append(t.Frames, api.Frame{Func: 1}, api.Frame{Func: 2})
	for i := range spare(t.Stack) {
		spare(t.Stack)[i] = 4
	}
	for i := range spare(t.Frames) {
		spare(t.Frames)[i] = api.Frame{Func: 3}
	}
	for _, f := range t.Frames {
		_ = append(f.Locals, 5, 6)
		for i := range spare(f.Locals) {
			spare(f.Locals)[i] = 7
		}
	}
}

// anyNumber is a number that is kept, often at a bound.
func anyNumber(r *rand.Rand) int {
	switch r.Intn(6) {
	case 0:
		return api.MaxNumber
	case 1:
		return -api.MaxNumber
	case 2:
		return r.Intn(3) - 1
	}
	return r.Intn(2*api.MaxNumber+1) - api.MaxNumber
}

// anyNumbers is n of them.
func anyNumbers(r *rand.Rand, n int) []int {
	l := make([]int, n)
	for i := range l {
		l[i] = anyNumber(r)
	}
	return l
}

// anyThread is a thread with frames that may be in p.
func anyThread(r *rand.Rand, p api.Program) api.Thread {
	t := api.Thread{State: r.Intn(api.Dead), On: anyNumber(r), Stack: anyNumbers(r, r.Intn(api.MaxStack+1))}
	for range 1 + r.Intn(api.MaxFrames) {
		f := r.Intn(len(p.Funcs))
		of := p.Funcs[f]
		t.Frames = append(t.Frames, api.Frame{Func: f, Pc: r.Intn(len(of.Code) + 1), Locals: anyNumbers(r, of.Locals)})
	}
	return t
}

func TestProgramMayBe(t *testing.T) {
	if !code.May(program()) {
		t.Error("what these tests lean on is no program")
	}
}
