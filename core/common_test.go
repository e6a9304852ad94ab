package core_test

import (
	"math"
	"reflect"
	"slices"
	"testing"

	"hibernacle/api"
	"hibernacle/code"
	"hibernacle/core"
	"hibernacle/stack"
)

// most is the greatest number that is kept.
const most = 1 << 30

// mark stands in all spare room, where nothing that the package does may reach.
const mark = -987654321

// far is numbers that lie far out.
var far = []int{math.MinInt, math.MinInt + 1, -1 << 61, -1 << 32, -1 << 31, -most - 1, -2, -1, most + 1, 1 << 31, 1 << 32, 1 << 61, math.MaxInt - 1, math.MaxInt}

// in is code of pairs: an Op, its A.
func in(l ...int) []api.Instr {
	var code []api.Instr
	for i := 0; i < len(l); i += 2 {
		code = append(code, api.Instr{Op: l[i], A: l[i+1]})
	}
	return code
}

// program is one of a function for each code, with two locals each. There are things of each kind, and a condition never has the number of its mutex, so that it is seen if one is taken for the other.
func program(codes ...[]api.Instr) api.Program {
	p := api.Program{
		Mutexes: 3,
		Conds:   []int{2, 0, 1},
		Semas:   []int{0, 1, 2},
		Chans:   []int{0, 1, 2},
		Choices: [][]int{{2, 0}, {1}, {0, 1, 2}},
		Threads: api.MaxThreads,
	}
	for _, c := range codes {
		p.Funcs = append(p.Funcs, api.Func{Locals: 2, Code: c})
	}
	return p
}

// stand is a state of p in which a thread for each function stands at its beginning.
func stand(t *testing.T, p api.Program) api.Core {
	t.Helper()
	if !code.May(p) {
		t.Fatalf("what this test leans on is no program: %v", p)
	}
	c := core.New(p)
	c.Threads = nil
	for f := range p.Funcs {
		c.Threads = append(c.Threads, stack.New(p, f))
	}
	return c
}

// with is c in other memory, changed.
func with(c api.Core, change func(c *api.Core)) api.Core {
	c = copied(c)
	change(&c)
	return c
}

// list is l in other memory, where nil and empty ones are one.
func list[T any](l []T, copied func(v T) T) []T {
	m := make([]T, len(l))
	for i, v := range l {
		m[i] = copied(v)
	}
	return m
}

// itself is a number as a copy of it.
func itself(n int) int {
	return n
}

// row is a row in other memory.
func row(l []int) []int {
	return list(l, itself)
}

// thread is a thread in other memory.
func thread(x api.Thread) api.Thread {
	x.Stack = row(x.Stack)
	x.Frames = list(x.Frames, func(f api.Frame) api.Frame {
		f.Locals = row(f.Locals)
		return f
	})
	return x
}

// copied is c in other memory, by nothing of the program.
func copied(c api.Core) api.Core {
	c.Threads = list(c.Threads, thread)
	c.Owners, c.Counts = row(c.Owners), row(c.Counts)
	for _, rows := range rowsOf(&c) {
		*rows = list(*rows, row)
	}
	return c
}

// rowsOf is all lists of rows of a state.
func rowsOf(c *api.Core) []*[][]int {
	return []*[][]int{&c.Bufs, &c.LockQ, &c.WaitQ, &c.DownQ, &c.SendQ, &c.RecvQ}
}

// equal tells whether two states are one, by nothing of the program.
func equal(a, b api.Core) bool {
	if a.Now != b.Now || !slices.Equal(a.Owners, b.Owners) || !slices.Equal(a.Counts, b.Counts) || !slices.EqualFunc(a.Threads, b.Threads, sameThread) {
		return false
	}
	of := rowsOf(&b)
	for i, rows := range rowsOf(&a) {
		if !slices.EqualFunc(*rows, *of[i], slices.Equal[[]int]) {
			return false
		}
	}
	return true
}

// sameThread tells whether two threads are one.
func sameThread(a, b api.Thread) bool {
	return a.State == b.State && a.On == b.On && a.Code == b.Code && slices.Equal(a.Stack, b.Stack) &&
		slices.EqualFunc(a.Frames, b.Frames, func(a, b api.Frame) bool {
			return a.Func == b.Func && a.Pc == b.Pc && slices.Equal(a.Locals, b.Locals)
		})
}

// numbersOf is each list of numbers of a state.
func numbersOf(c api.Core) [][]int {
	l := [][]int{c.Owners, c.Counts}
	for _, rows := range rowsOf(&c) {
		l = append(l, *rows...)
	}
	for _, x := range c.Threads {
		l = append(l, x.Stack)
		for _, f := range x.Frames {
			l = append(l, f.Locals)
		}
	}
	return l
}

// spare is the room behind l.
func spare[T any](l []T) []T {
	return l[len(l):cap(l)]
}

// roomy is a list in other memory, with room behind it, in which v stands.
func roomy[T any](l []T, v T) []T {
	m := append(make([]T, 0, len(l)+4), l...)
	for i := range spare(m) {
		spare(m)[i] = v
	}
	return m
}

// roomyRow is a row with marks behind it.
func roomyRow(l []int) []int {
	return roomy(l, mark)
}

// roomyCore is c in other memory, each list with marked room behind it.
func roomyCore(c api.Core) api.Core {
	c = copied(c)
	for i, x := range c.Threads {
		for j, f := range x.Frames {
			x.Frames[j].Locals = roomyRow(f.Locals)
		}
		c.Threads[i].Stack, c.Threads[i].Frames = roomyRow(x.Stack), roomy(x.Frames, api.Frame{Func: mark})
	}
	c.Threads = roomy(c.Threads, api.Thread{State: mark})
	c.Owners, c.Counts = roomyRow(c.Owners), roomyRow(c.Counts)
	for _, rows := range rowsOf(&c) {
		*rows = roomy(list(*rows, roomyRow), []int{mark})
	}
	return c
}

// isMarked tells whether all room of a roomy state is as it was.
func isMarked(c api.Core) bool {
	for _, l := range numbersOf(c) {
		if len(spare(l)) != 4 || slices.ContainsFunc(spare(l), func(n int) bool { return n != mark }) {
			return false
		}
	}
	for _, rows := range rowsOf(&c) {
		if slices.ContainsFunc(spare(*rows), func(l []int) bool { return !slices.Equal(l, []int{mark}) }) {
			return false
		}
	}
	for _, x := range c.Threads {
		if slices.ContainsFunc(spare(x.Frames), func(f api.Frame) bool { return f.Func != mark || f.Locals != nil }) {
			return false
		}
	}
	return !slices.ContainsFunc(spare(c.Threads), func(x api.Thread) bool {
		return !reflect.DeepEqual(x, api.Thread{State: mark})
	})
}

// over writes v over all of a list, spare room too.
func over[T any](l []T, v T) {
	l = l[:cap(l)]
	for i := range l {
		l[i] = v
	}
}

// scratch writes over all that is to be reached of a state, the innermost first.
func scratch(c api.Core) {
	for _, l := range numbersOf(c) {
		over(l, -77)
	}
	for _, rows := range rowsOf(&c) {
		over(*rows, []int{-78})
	}
	for _, x := range c.Threads {
		over(x.Frames, api.Frame{Func: -79})
	}
	over(c.Threads, api.Thread{State: -80})
}

// isUntouched asks that given, a roomy c, is as it was; and that it stays so when all of out, which was made of it, is written over.
func isUntouched(t *testing.T, name string, given, c, out api.Core) {
	t.Helper()
	if !equal(given, c) || !isMarked(given) {
		t.Errorf("%s: what was handed in is changed", name)
	}
	scratch(out)
	if !equal(given, c) || !isMarked(given) {
		t.Errorf("%s: what is answered is memory of what was handed in", name)
	}
}

// isOwn asks that no two lists of a state share memory: that each can be written over, spare room too, and no other one changes.
func isOwn(t *testing.T, name string, c api.Core) {
	t.Helper()
	l := numbersOf(c)
	for i, row := range l {
		over(row, 1000+i)
	}
	for i, row := range l {
		for _, n := range row[:cap(row)] {
			if n != 1000+i {
				t.Fatalf("%s: two lists share memory: %v", name, l)
			}
		}
	}
}

// step asks Step of a state, that what is handed in stays as it was, and that all that is answered is memory of its own.
func step(t *testing.T, name string, p api.Program, c api.Core, who int) (api.Core, []api.Event, []int, api.Errno) {
	t.Helper()
	given, prog := roomyCore(c), roomyProgram(p)
	out, seen, woken, e := core.Step(prog, given, who)
	again, _, _, _ := core.Step(prog, given, who)
	if !equal(out, again) {
		t.Errorf("%s: it is not the same twice: %v, %v", name, out, again)
	}
	want := copied(out)
	isUntouched(t, name, given, c, out)
	isOwn(t, name, again)
	if !code.Same(prog, p) || !programIsMarked(prog) {
		t.Errorf("%s: the program is changed", name)
	}
	return want, seen, woken, e
}

// plainStep asks Step, and nothing else.
func plainStep(_ *testing.T, _ string, p api.Program, c api.Core, who int) (api.Core, []api.Event, []int, api.Errno) {
	return core.Step(p, c, who)
}

// roomyProgram is p in other memory, with marks behind its lists of numbers.
func roomyProgram(p api.Program) api.Program {
	p = code.Clone(p)
	p.Conds, p.Semas, p.Chans = roomyRow(p.Conds), roomyRow(p.Semas), roomyRow(p.Chans)
	p.Choices = list(p.Choices, roomyRow)
	return p
}

// programIsMarked tells whether all room of a roomy program is as it was.
func programIsMarked(p api.Program) bool {
	for _, l := range append(p.Choices[:len(p.Choices):len(p.Choices)], p.Conds, p.Semas, p.Chans) {
		if slices.ContainsFunc(spare(l), func(n int) bool { return n != mark }) {
			return false
		}
	}
	return true
}

// numbers is n numbers, all of which differ.
func numbers(n int) []int {
	l := make([]int, n)
	for i := range l {
		l[i] = 100 + i
	}
	return l
}
