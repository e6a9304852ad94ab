package code_test

import (
	"math/rand"
	"reflect"
	"slices"
	"strconv"
	"strings"
	"testing"

	"hibernacle/api"
	"hibernacle/code"
)

// P3.2

// words is the names as the chapter has them, in the row of their numbers.
const words = "push, pop, dup, add, sub, get, set, jump, zero, call, ret, spawn, yield, sleep, join, lock, unlock, wait, signal, broadcast, down, up, send, recv, select, print, exit"

// changed is the whole program with each of its parts changed by itself.
func changed() []api.Program {
	return []api.Program{
		wholeWith(func(p *api.Program) { p.Funcs[0].Locals++ }),
		wholeWith(func(p *api.Program) { p.Funcs[2].Locals++ }),
		wholeWith(func(p *api.Program) { p.Funcs[0].Code[3].Op++ }),
		wholeWith(func(p *api.Program) { p.Funcs[0].Code[26].A++ }),
		wholeWith(func(p *api.Program) { p.Funcs[2].Code[1].Op = api.Exit }),
		wholeWith(func(p *api.Program) { p.Funcs[2].Code = p.Funcs[2].Code[:1] }),
		wholeWith(func(p *api.Program) { p.Funcs[1].Code = []api.Instr{{}} }),
		wholeWith(func(p *api.Program) { p.Funcs = p.Funcs[:2] }),
		wholeWith(func(p *api.Program) { p.Funcs = append(p.Funcs, api.Func{}) }),
		wholeWith(func(p *api.Program) { p.Funcs[0], p.Funcs[1] = p.Funcs[1], p.Funcs[0] }),
		wholeWith(func(p *api.Program) { p.Mutexes++ }),
		wholeWith(func(p *api.Program) { p.Conds[1]++ }),
		wholeWith(func(p *api.Program) { p.Conds = p.Conds[:1] }),
		wholeWith(func(p *api.Program) { p.Semas[0]++ }),
		wholeWith(func(p *api.Program) { p.Semas = append(p.Semas, 0) }),
		wholeWith(func(p *api.Program) { p.Chans[3]++ }),
		wholeWith(func(p *api.Program) { p.Chans = nil }),
		wholeWith(func(p *api.Program) { p.Semas, p.Chans = p.Chans, p.Semas }),
		wholeWith(func(p *api.Program) { p.Choices[1][2] = 3 }),
		wholeWith(func(p *api.Program) { p.Choices[1] = p.Choices[1][:2] }),
		wholeWith(func(p *api.Program) { p.Choices[0], p.Choices[1] = p.Choices[1], p.Choices[0] }),
		wholeWith(func(p *api.Program) { p.Choices = p.Choices[:1] }),
		wholeWith(func(p *api.Program) { p.Choices = append(p.Choices, nil) }),
		wholeWith(func(p *api.Program) { p.Threads-- }),
		least(),
		{},
	}
}

func TestSame(t *testing.T) {
	all := append(changed(), whole())
	for i, a := range all {
		for j, b := range all {
			a, b = copied(a), copied(b)
			if code.Same(a, b) != (i == j) {
				t.Errorf("%d, %d: %v", i, j, i != j)
			}
			if !reflect.DeepEqual(a, copied(all[i])) || !reflect.DeepEqual(b, copied(all[j])) {
				t.Errorf("%d, %d: one was changed", i, j)
			}
		}
	}
}

func TestNilAndEmptyListsAreTheSame(t *testing.T) {
	empty := api.Program{
		Funcs: []api.Func{}, Conds: []int{}, Semas: []int{}, Chans: []int{}, Choices: [][]int{},
	}
	if !code.Same(empty, api.Program{}) || !code.Same(api.Program{}, empty) {
		t.Error("lists of programs")
	}
	a := api.Program{Funcs: []api.Func{{Code: []api.Instr{}}}, Choices: [][]int{{}}}
	b := api.Program{Funcs: []api.Func{{}}, Choices: [][]int{nil}}
	if !code.Same(a, b) || !code.Same(b, a) {
		t.Error("lists of functions and choices")
	}
}

// scratch writes over all that is to be reached of p, spare room too.
func scratch(p api.Program) {
	over := func(l []int) {
		for i := range l[:cap(l)] {
			l[:cap(l)][i] = -77
		}
	}
	over(p.Conds)
	over(p.Semas)
	over(p.Chans)
	for _, l := range p.Choices {
		over(l)
	}
	for _, f := range p.Funcs {
		l := f.Code[:cap(f.Code)]
		for i := range l {
			l[i] = api.Instr{Op: -77, A: -77}
		}
	}
	for i := range p.Choices[:cap(p.Choices)] {
		p.Choices[:cap(p.Choices)][i] = []int{-77}
	}
	for i := range p.Funcs[:cap(p.Funcs)] {
		p.Funcs[:cap(p.Funcs)][i] = api.Func{Locals: -77}
	}
}

func TestClone(t *testing.T) {
	r := rand.New(rand.NewSource(32))
	all := append(changed(), whole(), anyProgram(r), anyProgram(r))
	for i, p := range all {
		want := copied(p)
		q := code.Clone(p)
		if !code.Same(p, q) {
			t.Errorf("%d: %v", i, q)
		}
		scratch(q)
		if !reflect.DeepEqual(p, want) {
			t.Errorf("%d: what the clone has is the program's, too", i)
		}
		q = code.Clone(p)
		scratch(p)
		if !code.Same(q, want) {
			t.Errorf("%d: what the program has is the clone's, too", i)
		}
	}
}

func TestACloneSharesNoMemoryWithinItself(t *testing.T) {
	l := []int{0, 1, 2}
	c := []api.Instr{{Op: api.Pop}, {Op: api.Dup}}
	p := api.Program{
		Funcs: []api.Func{{Code: c}, {Code: c[:1]}}, Mutexes: 3,
		Conds: l, Semas: l[:1], Chans: l[:2], Choices: [][]int{l[:1], l[:2]}, Threads: 1,
	}
	q := code.Clone(p)
	q.Funcs[1].Code = append(q.Funcs[1].Code, api.Instr{Op: api.Exit})
	q.Semas = append(q.Semas, 9)
	q.Choices[0] = append(q.Choices[0], 9)
	q.Choices[1][0] = 9
	if q.Funcs[0].Code[1].Op != api.Dup || q.Conds[1] != 1 || q.Chans[1] != 1 || q.Choices[0][0] != 0 || q.Choices[1][1] != 1 {
		t.Errorf("%v", q)
	}
	if !slices.Equal(l, []int{0, 1, 2}) || c[1].Op != api.Dup {
		t.Errorf("%v, %v", l, c)
	}
}

func TestNames(t *testing.T) {
	l := strings.Split(words, ", ")
	if len(l) != api.Ops {
		t.Fatal(len(l))
	}
	for op, s := range l {
		if code.Name(op) != s {
			t.Errorf("Name(%d): %q", op, code.Name(op))
		}
		if n, ok := code.Op(s); n != op || !ok {
			t.Errorf("Op(%q): %d, %v", s, n, ok)
		}
		for _, x := range []string{s + " ", " " + s, strings.ToUpper(s), s + s, s[:len(s)-1] + "\x00", s + "\x00"} {
			if n, ok := code.Op(x); n != 0 || ok {
				t.Errorf("Op(%q): %d, %v", x, n, ok)
			}
		}
	}
	for _, op := range append([]int{-1, api.Ops, api.Ops + 1, 255, 256}, far...) {
		if s := code.Name(op); s != "" {
			t.Errorf("Name(%d): %q", op, s)
		}
	}
	for _, s := range []string{"", "push 1", "nop", "0", "\xff"} {
		if n, ok := code.Op(s); n != 0 || ok {
			t.Errorf("Op(%q): %d, %v", s, n, ok)
		}
	}
}

func TestShow(t *testing.T) {
	// Those that have no number, by the chapter.
	bare := " pop dup add sub ret yield sleep join print exit "
	for op, s := range strings.Split(words, ", ") {
		for _, a := range append([]int{0, 1, 7, 10, -1, -300, 1 << 30}, far...) {
			want := s + " " + strconv.Itoa(a)
			if strings.Contains(bare, " "+s+" ") {
				want = s
			}
			if got := code.Show(api.Instr{Op: op, A: a}); got != want {
				t.Errorf("Show(%d, %d): %q, not %q", op, a, got, want)
			}
		}
	}
	for _, op := range append([]int{-1, api.Ops, 255}, far...) {
		if got := code.Show(api.Instr{Op: op, A: 3}); got != "" {
			t.Errorf("Show(%d, 3): %q", op, got)
		}
	}
}

func TestAt(t *testing.T) {
	p := whole()
	for f := -2; f < 6; f++ {
		for pc := -2; pc < 70; pc++ {
			var want api.Instr
			there := f >= 0 && f < len(p.Funcs) && pc >= 0 && pc < len(p.Funcs[f].Code)
			if there {
				want = p.Funcs[f].Code[pc]
			}
			if i, ok := code.At(p, f, pc); i != want || ok != there {
				t.Errorf("At(%d, %d): %v, %v", f, pc, i, ok)
			}
		}
	}
	for _, n := range far {
		for _, l := range [][2]int{{n, 0}, {0, n}, {n, n}} {
			if i, ok := code.At(p, l[0], l[1]); i != (api.Instr{}) || ok {
				t.Errorf("At(%d, %d): %v, %v", l[0], l[1], i, ok)
			}
		}
	}
	if i, ok := code.At(api.Program{}, 0, 0); i != (api.Instr{}) || ok {
		t.Errorf("At of no functions: %v, %v", i, ok)
	}
}
