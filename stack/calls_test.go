package stack_test

import (
	"math"
	"math/rand"
	"testing"

	"hibernacle/api"
	"hibernacle/stack"
)

// P4.2

func TestPush(t *testing.T) {
	const most = 1 << 30
	for _, c := range []struct{ v, want int }{
		{0, 0}, {-1, -1}, {42, 42}, {most, most}, {-most, -most},
		{most + 1, most}, {-most - 1, -most}, {1 << 31, most}, {math.MaxInt, most}, {math.MinInt, -most},
	} {
		x, ok := stack.Push(whole(), c.v)
		if !ok {
			t.Errorf("Push(%d): false", c.v)
		}
		isThread(t, "Push", x, wholeWith(func(x *api.Thread) { x.Stack = []int{5, -6, 7, c.want} }))
	}
}

func TestPushHasRoomForSixteen(t *testing.T) {
	x := wholeWith(func(x *api.Thread) { x.Stack = nil })
	var want []int
	for i := range 16 {
		var ok bool
		x, ok = stack.Push(x, 100+i)
		want = append(want, 100+i)
		if !ok {
			t.Fatalf("Push %d: false", i)
		}
		isThread(t, "Push", x, wholeWith(func(x *api.Thread) { x.Stack = want }))
	}
	for _, v := range []int{0, 1, math.MaxInt} {
		y, ok := stack.Push(x, v)
		if ok {
			t.Errorf("Push(%d) onto sixteen: true", v)
		}
		isThread(t, "Push onto sixteen", y, x)
	}
}

func TestPop(t *testing.T) {
	x := whole()
	for i, want := range []int{7, -6, 5} {
		var v int
		var ok bool
		x, v, ok = stack.Pop(x)
		if v != want || !ok {
			t.Errorf("Pop: %d, %v, not %d", v, ok, want)
		}
		isThread(t, "Pop", x, wholeWith(func(x *api.Thread) { x.Stack = x.Stack[:2-i] }))
	}
	for range 2 {
		y, v, ok := stack.Pop(x)
		if v != 0 || ok {
			t.Errorf("Pop of none: %d, %v", v, ok)
		}
		isThread(t, "Pop of none", y, x)
	}
}

func TestEnter(t *testing.T) {
	p := program()
	for f, of := range p.Funcs {
		x, ok := stack.Enter(p, whole(), f)
		if !ok {
			t.Errorf("Enter(%d): false", f)
		}
		isThread(t, "Enter", x, wholeWith(func(x *api.Thread) {
			x.Frames = append(x.Frames, api.Frame{Func: f, Locals: make([]int, of.Locals)})
		}))
	}
}

func TestEnterHasRoomForEight(t *testing.T) {
	p := program()
	x := stack.New(p, 1)
	for n := 1; n < 8; n++ {
		var ok bool
		if x, ok = stack.Enter(p, x, 0); !ok || len(x.Frames) != n+1 {
			t.Fatalf("Enter behind %d: %v, %v", n, x, ok)
		}
	}
	for f := range p.Funcs {
		y, ok := stack.Enter(p, x, f)
		if ok {
			t.Errorf("Enter(%d) behind eight: true", f)
		}
		isThread(t, "Enter behind eight", y, x)
	}
}

func TestFramesOfOneFunctionHaveLocalsOfTheirOwn(t *testing.T) {
	p := program()
	x := stack.Set(stack.New(p, 0), 1, 5)
	x, _ = stack.Enter(p, x, 0)
	if n := stack.Get(x, 1); n != 0 {
		t.Errorf("a local that is new: %d", n)
	}
	x = stack.Set(x, 1, 6)
	if n := stack.Get(x, 1); n != 6 {
		t.Errorf("a local that was set: %d", n)
	}
	x, _ = stack.Leave(x)
	if n := stack.Get(x, 1); n != 5 {
		t.Errorf("a local of the frame ahead: %d", n)
	}
}

func TestLeave(t *testing.T) {
	x := whole()
	for n := 3; n >= 0; n-- {
		var ok bool
		x, ok = stack.Leave(x)
		if ok != (n > 0) {
			t.Errorf("Leave, %d are left: %v", n, ok)
		}
		isThread(t, "Leave", x, wholeWith(func(x *api.Thread) { x.Frames = x.Frames[:n] }))
	}
}

func TestFetch(t *testing.T) {
	p := program()
	for f, of := range p.Funcs {
		for pc := range len(of.Code) + 1 {
			var want api.Instr
			there := pc < len(of.Code)
			if there {
				want = of.Code[pc]
			}
			x := wholeWith(func(x *api.Thread) {
				x.Frames = append(x.Frames, api.Frame{Func: f, Pc: pc, Locals: make([]int, of.Locals)})
			})
			if i, ok := stack.Fetch(p, x); i != want || ok != there {
				t.Errorf("Fetch at %d of %d: %v, %v", pc, f, i, ok)
			}
		}
	}
}

func TestJump(t *testing.T) {
	p := program()
	for _, pc := range []int{0, 1, 2, 3} {
		x := stack.Jump(whole(), pc)
		isThread(t, "Jump", x, wholeWith(func(x *api.Thread) { x.Frames[3].Pc = pc }))
		if i, ok := stack.Fetch(p, x); ok != (pc < 3) || ok && i != p.Funcs[0].Code[pc] {
			t.Errorf("Fetch behind Jump(%d): %v, %v", pc, i, ok)
		}
	}
	x := stack.Jump(stack.New(p, 3), 64)
	isThread(t, "Jump to the end", x, api.Thread{Frames: []api.Frame{{Func: 3, Pc: 64, Locals: make([]int, 8)}}})
}

func TestGetAndSet(t *testing.T) {
	x := whole()
	if a, b := stack.Get(x, 0), stack.Get(x, 1); a != 21 || b != 22 {
		t.Errorf("Get: %d, %d", a, b)
	}
	for i := range 2 {
		for _, v := range []int{0, -5, 99, api.MaxNumber, -api.MaxNumber} {
			y := stack.Set(x, i, v)
			isThread(t, "Set", y, wholeWith(func(x *api.Thread) { x.Frames[3].Locals[i] = v }))
			if n := stack.Get(y, i); n != v {
				t.Errorf("Get(%d) behind Set: %d, not %d", i, n, v)
			}
		}
	}
	y := stack.New(program(), 3)
	for i := range 8 {
		y = stack.Set(y, i, 10+i)
	}
	isThread(t, "Set of all", y, api.Thread{Frames: []api.Frame{{Func: 3, Locals: []int{10, 11, 12, 13, 14, 15, 16, 17}}}})
}

func TestSetKeepsTheNearerBound(t *testing.T) {
	for _, v := range far {
		y := stack.Set(whole(), 1, v)
		if n := stack.Get(y, 1); n != stack.Keep(v) || !stack.May(program(), y) {
			t.Errorf("Set of %d: %d", v, n)
		}
	}
}

func TestNoCallFailsOfWhatThereIsNot(t *testing.T) {
	x := whole()
	for _, i := range append([]int{-1, 2, 3}, far...) {
		if n := stack.Get(x, i); n != 0 {
			t.Errorf("Get(%d): %d", i, n)
		}
		isThread(t, "Set", stack.Set(x, i, 9), x)
	}
	for _, i := range append([]int{-1, 4}, far...) {
		if n, ok := stack.Fetch(program(), stack.Jump(x, i)); n != (api.Instr{}) || ok {
			t.Errorf("Fetch at %d: %v, %v", i, n, ok)
		}
	}
	for _, x := range []api.Thread{dead(), {}} {
		y, ok := stack.Leave(x)
		isThread(t, "Leave", y, x)
		i, there := stack.Fetch(program(), x)
		if ok || there || i != (api.Instr{}) || stack.Get(x, 0) != 0 {
			t.Errorf("%v: Leave %v, Fetch %v, %v", x, ok, i, there)
		}
		isThread(t, "Jump", stack.Jump(x, 1), x)
		isThread(t, "Set", stack.Set(x, 0, 1), x)
	}
}

func TestEnd(t *testing.T) {
	for c := range api.Codes {
		for _, x := range []api.Thread{whole(), stack.New(program(), 2), dead()} {
			y := stack.End(x, c)
			isThread(t, "End", y, api.Thread{State: api.Dead, Code: c})
			if !stack.May(program(), y) {
				t.Errorf("End(%d) is none that may be", c)
			}
		}
	}
}

// changed is the whole thread with each of its parts changed by itself.
func changed() []api.Thread {
	return []api.Thread{
		wholeWith(func(x *api.Thread) { x.State++ }),
		wholeWith(func(x *api.Thread) { x.On-- }),
		wholeWith(func(x *api.Thread) { x.Code = 1 }),
		wholeWith(func(x *api.Thread) { x.Stack[0]++ }),
		wholeWith(func(x *api.Thread) { x.Stack[2]++ }),
		wholeWith(func(x *api.Thread) { x.Stack = x.Stack[:2] }),
		wholeWith(func(x *api.Thread) { x.Stack = append(x.Stack, 0) }),
		wholeWith(func(x *api.Thread) { x.Stack = nil }),
		wholeWith(func(x *api.Thread) { x.Frames = x.Frames[:3] }),
		wholeWith(func(x *api.Thread) { x.Frames = append(x.Frames, api.Frame{}) }),
		wholeWith(func(x *api.Thread) { x.Frames = nil }),
		wholeWith(func(x *api.Thread) { x.Frames[0], x.Frames[3] = x.Frames[3], x.Frames[0] }),
		wholeWith(func(x *api.Thread) { x.Frames[1].Func++ }),
		wholeWith(func(x *api.Thread) { x.Frames[3].Func++ }),
		wholeWith(func(x *api.Thread) { x.Frames[0].Pc++ }),
		wholeWith(func(x *api.Thread) { x.Frames[3].Pc++ }),
		wholeWith(func(x *api.Thread) { x.Frames[0].Locals[1]++ }),
		wholeWith(func(x *api.Thread) { x.Frames[2].Locals[7]++ }),
		wholeWith(func(x *api.Thread) { x.Frames[2].Locals = x.Frames[2].Locals[:7] }),
		wholeWith(func(x *api.Thread) { x.Frames[1].Locals = []int{0} }),
		wholeWith(func(x *api.Thread) { x.Frames[3].Locals = nil }),
		dead(),
		deadWith(func(x *api.Thread) { x.Code-- }),
		{},
	}
}

func TestSame(t *testing.T) {
	all := append(changed(), whole())
	for i, a := range all {
		for j, b := range all {
			a, b = copied(a), copied(b)
			if stack.Same(a, b) != (i == j) {
				t.Errorf("%d, %d: %v", i, j, i != j)
			}
			if !equal(a, all[i]) || !equal(b, all[j]) {
				t.Errorf("%d, %d: one was changed", i, j)
			}
		}
	}
}

func TestNilAndEmptyListsAreTheSame(t *testing.T) {
	a := api.Thread{Frames: []api.Frame{{Locals: []int{}}}, Stack: []int{}}
	b := api.Thread{Frames: []api.Frame{{}}}
	if !stack.Same(a, b) || !stack.Same(b, a) {
		t.Error("lists of locals and numbers")
	}
	a, b = api.Thread{Frames: []api.Frame{}}, api.Thread{}
	if !stack.Same(a, b) || !stack.Same(b, a) {
		t.Error("lists of frames")
	}
}

// scratch writes over all that is to be reached of x, spare room too.
func scratch(x api.Thread) {
	over := func(l []int) {
		for i := range l[:cap(l)] {
			l[:cap(l)][i] = -77
		}
	}
	over(x.Stack)
	for _, f := range x.Frames {
		over(f.Locals)
	}
	l := x.Frames[:cap(x.Frames)]
	for i := range l {
		l[i] = api.Frame{Func: -77}
	}
}

func TestClone(t *testing.T) {
	r := rand.New(rand.NewSource(42))
	all := append(changed(), whole(), roomy(whole()), anyThread(r, program()), anyThread(r, program()))
	for i, x := range all {
		want := copied(x)
		y := stack.Clone(x)
		isThread(t, "Clone", y, want)
		if !stack.Same(x, y) {
			t.Errorf("%d: its clone is not the same", i)
		}
		scratch(y)
		isThread(t, "what was cloned", x, want)
		y = stack.Clone(x)
		scratch(x)
		isThread(t, "Clone, once the other one is none", y, want)
	}
}

func TestACloneSharesNoMemoryWithinItself(t *testing.T) {
	l := []int{1, 2, 3}
	x := api.Thread{Frames: []api.Frame{{Locals: l}, {Locals: l[:2]}}, Stack: l[:1]}
	y := stack.Clone(x)
	y.Frames[0].Locals[0] = 7
	y.Frames[1].Locals = append(y.Frames[1].Locals, 8)
	y.Stack = append(y.Stack, 9)
	isThread(t, "Clone", y, api.Thread{Frames: []api.Frame{{Locals: []int{7, 2, 3}}, {Locals: []int{1, 2, 8}}}, Stack: []int{1, 9}})
	isThread(t, "what was cloned", x, api.Thread{Frames: []api.Frame{{Locals: []int{1, 2, 3}}, {Locals: []int{1, 2}}}, Stack: []int{1}})
}
