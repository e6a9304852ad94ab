package code_test

import (
	"math/rand"
	"slices"

	"hibernacle/api"
)

// whole is a program in which everything stands: each instruction, and each list in two lengths at least.
func whole() api.Program {
	return api.Program{
		Funcs: []api.Func{
			{Locals: 2, Code: []api.Instr{
				{Op: api.Push, A: -300}, {Op: api.Pop}, {Op: api.Dup}, {Op: api.Add}, {Op: api.Sub},
				{Op: api.Get, A: 1}, {Op: api.Set, A: 0}, {Op: api.Jump, A: 27}, {Op: api.Zero, A: 3},
				{Op: api.Call, A: 1}, {Op: api.Ret}, {Op: api.Spawn, A: 2}, {Op: api.Yield}, {Op: api.Sleep},
				{Op: api.Join}, {Op: api.Lock, A: 2}, {Op: api.Unlock, A: 1}, {Op: api.Wait, A: 1},
				{Op: api.Signal, A: 0}, {Op: api.Broadcast, A: 1}, {Op: api.Down, A: 2}, {Op: api.Up, A: 0},
				{Op: api.Send, A: 3}, {Op: api.Recv, A: 0}, {Op: api.Select, A: 1}, {Op: api.Print}, {Op: api.Exit},
			}},
			{Locals: 8},
			{Locals: 0, Code: []api.Instr{{Op: api.Push, A: api.MaxNumber}, {Op: api.Ret}}},
		},
		Mutexes: 3,
		Conds:   []int{2, 0},
		Semas:   []int{0, 100, 7},
		Chans:   []int{0, 8, 1, 2},
		Choices: [][]int{{3}, {2, 0, 1}},
		Threads: 32,
	}
}

// wholeBytes is whole's bytes, put down by hand.
func wholeBytes() []byte {
	return []byte{
		3,
		2, 27,
		0, 0xd7, 4, 1, 0, 2, 0, 3, 0, 4, 0,
		5, 2, 6, 0, 7, 54, 8, 6,
		9, 2, 10, 0, 11, 4, 12, 0, 13, 0,
		14, 0, 15, 4, 16, 2, 17, 2,
		18, 0, 19, 2, 20, 4, 21, 0,
		22, 6, 23, 0, 24, 2, 25, 0, 26, 0,
		8, 0,
		0, 2, 0, 0x80, 0x80, 0x80, 0x80, 8, 10, 0,
		3,
		2, 2, 0,
		3, 0, 100, 7,
		4, 0, 8, 1, 2,
		2, 1, 3, 3, 2, 0, 1,
		32,
	}
}

// least is the least program that may be.
func least() api.Program {
	return api.Program{Funcs: []api.Func{{}}, Threads: 1}
}

// leastWith is the least program, changed.
func leastWith(change func(p *api.Program)) api.Program {
	p := least()
	change(&p)
	return p
}

// wholeWith is the whole program, changed.
func wholeWith(change func(p *api.Program)) api.Program {
	p := whole()
	change(&p)
	return p
}

// copied is p in other memory, each list cut to its length. It leans on nothing of the package.
func copied(p api.Program) api.Program {
	q := p
	q.Funcs = slices.Clone(p.Funcs)
	for i := range q.Funcs {
		q.Funcs[i].Code = slices.Clip(slices.Clone(q.Funcs[i].Code))
	}
	q.Conds, q.Semas, q.Chans = slices.Clone(p.Conds), slices.Clone(p.Semas), slices.Clone(p.Chans)
	q.Choices = slices.Clone(p.Choices)
	for i := range q.Choices {
		q.Choices[i] = slices.Clone(q.Choices[i])
	}
	return q
}

// numbers is n numbers, each from least to most.
func numbers(r *rand.Rand, n, least, most int) []int {
	l := make([]int, n)
	for i := range l {
		l[i] = least + r.Intn(most-least+1)
	}
	return l
}

// places is how many things there are of which an instruction tells one (so many, and none), in the function f of p.
func places(p api.Program, f api.Func) map[int]int {
	return map[int]int{
		api.Get: f.Locals, api.Set: f.Locals,
		api.Jump: len(f.Code) + 1, api.Zero: len(f.Code) + 1,
		api.Call: len(p.Funcs), api.Spawn: len(p.Funcs),
		api.Lock: p.Mutexes, api.Unlock: p.Mutexes,
		api.Wait: len(p.Conds), api.Signal: len(p.Conds), api.Broadcast: len(p.Conds),
		api.Down: len(p.Semas), api.Up: len(p.Semas),
		api.Send: len(p.Chans), api.Recv: len(p.Chans),
		api.Select: len(p.Choices),
	}
}

// anyInstr is an instruction that may be in the function f of p.
func anyInstr(r *rand.Rand, p api.Program, f api.Func) api.Instr {
	for {
		op := r.Intn(api.Ops)
		n, told := places(p, f)[op]
		switch {
		case op == api.Push:
			return api.Instr{Op: op, A: numbers(r, 1, -api.MaxNumber, api.MaxNumber)[0]}
		case !told:
			return api.Instr{Op: op}
		case n > 0:
			return api.Instr{Op: op, A: r.Intn(n)}
		}
	}
}

// anyProgram is a program that may be.
func anyProgram(r *rand.Rand) api.Program {
	p := api.Program{Mutexes: r.Intn(api.MaxThings + 1), Threads: 1 + r.Intn(api.MaxThreads)}
	if p.Mutexes > 0 {
		p.Conds = numbers(r, r.Intn(api.MaxThings+1), 0, p.Mutexes-1)
	}
	p.Semas = numbers(r, r.Intn(api.MaxThings+1), 0, api.MaxCount)
	p.Chans = numbers(r, r.Intn(api.MaxThings+1), 0, api.MaxCap)
	if len(p.Chans) > 0 {
		for range r.Intn(api.MaxThings + 1) {
			p.Choices = append(p.Choices, r.Perm(len(p.Chans))[:1+r.Intn(len(p.Chans))])
		}
	}
	p.Funcs = make([]api.Func, 1+r.Intn(api.MaxFuncs))
	for i := range p.Funcs {
		f := api.Func{Locals: r.Intn(api.MaxLocals + 1), Code: make([]api.Instr, r.Intn(api.MaxCode+1))}
		for j := range f.Code {
			f.Code[j] = anyInstr(r, p, f)
		}
		p.Funcs[i] = f
	}
	return p
}
