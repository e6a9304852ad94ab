package code_test

import (
	"math"
	"math/rand"
	"reflect"
	"testing"

	"hibernacle/api"
	"hibernacle/code"
)

// P3.1: which programs may be

// far is numbers that lie far out of all bounds, and some between.
var far = []int{math.MinInt, math.MinInt + 1, -1 << 61, -1 << 32, 1 << 31, 1 << 32, 1<<32 + 1, 1 << 61, math.MaxInt - 1, math.MaxInt}

// asked asks of one program whether it may be, and that Write tells the same.
func asked(t *testing.T, name string, p api.Program, want bool) {
	t.Helper()
	ahead := copied(p)
	if may := code.May(p); may != want {
		t.Errorf("%s: May tells %v", name, may)
	}
	b, e := code.Write(p)
	if want && (e != api.OK || len(b) == 0) {
		t.Errorf("%s: Write tells %v, %d", name, b, e)
	}
	if !want && (e != api.ErrArg || len(b) != 0) {
		t.Errorf("%s: Write tells %v, %d", name, b, e)
	}
	if !reflect.DeepEqual(p, ahead) {
		t.Errorf("%s: the program was changed", name)
	}
}

// between asks that put makes a program that may be just of the numbers from least to most.
func between(t *testing.T, name string, least, most int, put func(n int) api.Program) {
	t.Helper()
	for _, n := range append([]int{least - 1, least, least + 1, most - 1, most, most + 1, 0, -1}, far...) {
		asked(t, name, put(n), least <= n && n <= most)
	}
}

// counted asks that put makes a program that may be just of the numbers from least to most; of lengths, so from 0 on.
func counted(t *testing.T, name string, least, most int, put func(n int) api.Program) {
	t.Helper()
	for n := range 300 {
		asked(t, name, put(n), least <= n && n <= most)
	}
}

// same is n times v.
func same[T any](n int, v T) []T {
	l := make([]T, n)
	for i := range l {
		l[i] = v
	}
	return l
}

func TestProgramsThatMayBe(t *testing.T) {
	asked(t, "whole", whole(), true)
	asked(t, "least", least(), true)
	asked(t, "zero", api.Program{}, false)
	r := rand.New(rand.NewSource(3))
	for range 300 {
		asked(t, "any", anyProgram(r), true)
	}
}

func TestEmptyListsAreAsNone(t *testing.T) {
	asked(t, "empty", api.Program{
		Funcs: []api.Func{{Code: []api.Instr{}}}, Conds: []int{}, Semas: []int{}, Chans: []int{}, Choices: [][]int{}, Threads: 1,
	}, true)
}

func TestBoundsOfNumbers(t *testing.T) {
	between(t, "Locals", 0, 8, func(n int) api.Program {
		return leastWith(func(p *api.Program) { p.Funcs[0].Locals = n })
	})
	between(t, "Locals of a later function", 0, 8, func(n int) api.Program {
		return wholeWith(func(p *api.Program) { p.Funcs[2].Locals = n })
	})
	between(t, "Mutexes", 0, 8, func(n int) api.Program {
		return leastWith(func(p *api.Program) { p.Mutexes = n })
	})
	between(t, "Threads", 1, 32, func(n int) api.Program {
		return leastWith(func(p *api.Program) { p.Threads = n })
	})
	between(t, "a condition's mutex", 0, 2, func(n int) api.Program {
		return wholeWith(func(p *api.Program) { p.Conds[1] = n })
	})
	between(t, "a semaphore's count", 0, 100, func(n int) api.Program {
		return wholeWith(func(p *api.Program) { p.Semas[2] = n })
	})
	between(t, "a channel's places", 0, 8, func(n int) api.Program {
		return wholeWith(func(p *api.Program) { p.Chans[3] = n })
	})
	between(t, "a choice's channel", 0, 3, func(n int) api.Program {
		return wholeWith(func(p *api.Program) { p.Choices[0][0] = n })
	})
}

func TestBoundsOfLists(t *testing.T) {
	counted(t, "functions", 1, 16, func(n int) api.Program {
		return leastWith(func(p *api.Program) { p.Funcs = make([]api.Func, n) })
	})
	counted(t, "instructions", 0, 64, func(n int) api.Program {
		return leastWith(func(p *api.Program) { p.Funcs[0].Code = make([]api.Instr, n) })
	})
	counted(t, "instructions of a later function", 0, 64, func(n int) api.Program {
		return wholeWith(func(p *api.Program) { p.Funcs[2].Code = make([]api.Instr, n) })
	})
	counted(t, "conditions", 0, 8, func(n int) api.Program {
		return leastWith(func(p *api.Program) { p.Mutexes, p.Conds = 1, make([]int, n) })
	})
	counted(t, "semaphores", 0, 8, func(n int) api.Program {
		return leastWith(func(p *api.Program) { p.Semas = make([]int, n) })
	})
	counted(t, "channels", 0, 8, func(n int) api.Program {
		return leastWith(func(p *api.Program) { p.Chans = make([]int, n) })
	})
	counted(t, "choices", 0, 8, func(n int) api.Program {
		return leastWith(func(p *api.Program) { p.Chans, p.Choices = []int{0}, same(n, []int{0}) })
	})
	counted(t, "a choice's channels", 1, 8, func(n int) api.Program {
		return leastWith(func(p *api.Program) {
			l := make([]int, n)
			for i := range l {
				l[i] = i
			}
			p.Chans, p.Choices = make([]int, 8), [][]int{{5}, l}
		})
	})
}

func TestConditionsNeedTheirMutex(t *testing.T) {
	asked(t, "no mutex", leastWith(func(p *api.Program) { p.Conds = []int{0} }), false)
	asked(t, "one mutex", leastWith(func(p *api.Program) { p.Mutexes, p.Conds = 1, []int{0, 0} }), true)
}

func TestNoChannelIsTwiceInAChoice(t *testing.T) {
	for _, c := range []struct {
		l    []int
		want bool
	}{
		{nil, false}, {[]int{}, false},
		{[]int{0}, true}, {[]int{3, 2, 1, 0}, true}, {[]int{1, 3}, true},
		{[]int{0, 0}, false}, {[]int{2, 1, 2}, false}, {[]int{0, 1, 2, 3, 3}, false}, {[]int{3, 0, 1, 2, 3}, false},
	} {
		asked(t, "a choice", wholeWith(func(p *api.Program) { p.Choices[0] = c.l }), c.want)
		asked(t, "a later choice", wholeWith(func(p *api.Program) { p.Choices[1] = c.l }), c.want)
	}
	asked(t, "a choice without channels", leastWith(func(p *api.Program) { p.Choices = [][]int{{0}} }), false)
}

// apart is a program that has that instruction in its last function, and of each thing another count, so that none may be taken for another one.
func apart(op, a int) api.Program {
	code := make([]api.Instr, 9)
	code[4] = api.Instr{Op: op, A: a}
	return api.Program{
		Funcs:   []api.Func{{}, {Locals: 8, Code: make([]api.Instr, 20)}, {Locals: 5, Code: code}},
		Mutexes: 8,
		Conds:   []int{0, 7, 0, 0, 0, 0, 0},
		Semas:   []int{1, 1, 1, 1, 1, 1},
		Chans:   []int{0, 0, 0, 0},
		Choices: [][]int{{3}, {2}},
		Threads: 1,
	}
}

func TestEachInstructionsNumber(t *testing.T) {
	for _, c := range []struct {
		least, most int
		ops         []int
	}{
		{-1 << 30, 1 << 30, []int{api.Push}},
		{0, 4, []int{api.Get, api.Set}},
		{0, 9, []int{api.Jump, api.Zero}},
		{0, 2, []int{api.Call, api.Spawn}},
		{0, 7, []int{api.Lock, api.Unlock}},
		{0, 6, []int{api.Wait, api.Signal, api.Broadcast}},
		{0, 5, []int{api.Down, api.Up}},
		{0, 3, []int{api.Send, api.Recv}},
		{0, 1, []int{api.Select}},
		{0, 0, []int{
			api.Pop, api.Dup, api.Add, api.Sub, api.Ret, api.Yield, api.Sleep, api.Join, api.Print, api.Exit,
		}},
	} {
		for _, op := range c.ops {
			between(t, code.Name(op), c.least, c.most, func(n int) api.Program { return apart(op, n) })
		}
	}
}

func TestInstructionsOfThingsThatThereAreNot(t *testing.T) {
	for op := range api.Ops {
		_, told := places(least(), least().Funcs[0])[op]
		want := !told || op == api.Jump || op == api.Zero || op == api.Call || op == api.Spawn
		asked(t, code.Name(op), leastWith(func(p *api.Program) { p.Funcs[0].Code = []api.Instr{{Op: op}} }), want)
	}
}

func TestJumpsGoAsFarAsBehindTheEnd(t *testing.T) {
	for _, op := range []int{api.Jump, api.Zero} {
		for _, n := range []int{1, 2, 63, 64} {
			between(t, code.Name(op), 0, n, func(a int) api.Program {
				return leastWith(func(p *api.Program) {
					p.Funcs[0].Code = append(make([]api.Instr, n-1), api.Instr{Op: op, A: a})
				})
			})
		}
	}
}

func TestLocalsAreThoseOfTheFunctionItself(t *testing.T) {
	for _, op := range []int{api.Get, api.Set} {
		p := api.Program{Funcs: []api.Func{{Locals: 8}, {Locals: 2, Code: []api.Instr{{Op: op, A: 1}}}, {Locals: 8}}, Threads: 1}
		asked(t, code.Name(op), p, true)
		p.Funcs[1].Code[0].A = 2
		asked(t, code.Name(op), p, false)
	}
}

func TestOpsThatAreNone(t *testing.T) {
	for _, op := range append([]int{-1, api.Ops, api.Ops + 1, 255, 256, 256 + api.Pop}, far...) {
		asked(t, "among others", apart(op, 0), false)
		asked(t, "alone", leastWith(func(p *api.Program) { p.Funcs[0].Code = []api.Instr{{Op: op}} }), false)
	}
}
