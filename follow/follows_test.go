package follow_test

import (
	"math/rand"
	"slices"
	"testing"

	"hibernacle/api"
	"hibernacle/core"
	"hibernacle/follow"
)

// P12.3

// walk is moves by chance, of those that go, from New on; some ticks more are among them. Of each state that it comes to, the last one too, it asks.
func walk(t *testing.T, r *rand.Rand, p api.Program, most int, ask func(c api.Core)) []follow.Move {
	t.Helper()
	var l []follow.Move
	c := core.New(p)
	for range most {
		ask(c)
		all := follow.All(p, c)
		if len(all) == 0 || r.Intn(9) == 0 {
			all = ticks(r.Intn(4) - 1)
		}
		m := all[r.Intn(len(all))]
		c, _ = told(t, p, c, []follow.Move{m}, 1)
		l = append(l, m)
	}
	ask(c)
	return l
}

// isWhole asks of two runs, one of which goes on where the other one, of the moves ahead, ended, that they are that of all moves.
func isWhole(t *testing.T, p api.Program, l []follow.Move, ahead int) {
	t.Helper()
	c, seen, n, e := follow.Run(p, core.New(p), l)
	first, a, i, e1 := follow.Run(p, core.New(p), l[:ahead])
	if e1 != api.OK || i != ahead {
		t.Fatalf("%d moves ahead: %d, error %d", ahead, i, e1)
	}
	second, b, j, e2 := follow.Run(p, first, l[ahead:])
	if !slices.Equal(slices.Concat(a, b), seen) || i+j != n || e2 != e || !core.Same(second, c) {
		t.Errorf("%v, cut at %d: %v and %v, not %v; %d and %d, not %d; errors %d, %d", l, ahead, a, b, seen, i, j, n, e2, e)
	}
}

func TestRunsAreCheckedAndGoOn(t *testing.T) {
	r := rand.New(rand.NewSource(123))
	shown := 0
	for range 120 {
		p := anyProgram(t, r)
		l := walk(t, r, p, 1+r.Intn(60), func(api.Core) {})
		c, seen, n, e := run(t, "a walk", p, core.New(p), l)
		want, all := told(t, p, core.New(p), l, len(l))
		if n != len(l) || e != api.OK || !core.Same(c, want) || !slices.Equal(seen, all) {
			t.Fatalf("the run of %v: %v, %v, %d, error %d", l, c, seen, n, e)
		}
		shown += len(seen)
		isChecked(t, "a run's trace", p, l, seen, -1, api.OK)
		for i := range len(l) + 1 {
			isWhole(t, p, l, i)
			isWhole(t, p, slices.Insert(slices.Clone(l), i, steps(len(c.Threads)+1)...), i)
		}
		for i := range seen {
			other := slices.Clone(seen)
			other[i].N++
			isChecked(t, "another trace", p, l, other, i, api.ErrForm)
		}
	}
	if shown < 500 {
		t.Errorf("only %d events were seen, in all", shown)
	}
}

// All tells just the steps that go, and Any one of them; ticks up to Next wake some, and fewer ticks none.
func TestAllIsWhatGoes(t *testing.T) {
	r := rand.New(rand.NewSource(124))
	ticked, done := 0, 0
	for range 60 {
		p := anyProgram(t, r)
		walk(t, r, p, 80, func(c api.Core) {
			all := follow.All(p, c)
			isWhatGoes(t, p, c, all)
			if len(all) == 0 {
				done++
			} else if last := all[len(all)-1]; last.Kind == follow.Tick {
				ticked++
				isNext(t, p, c, last.N)
			}
		})
	}
	if ticked < 100 || done < 100 {
		t.Errorf("only %d could tick, and %d were done", ticked, done)
	}
}

// isWhatGoes asks that a step is among all just if it goes, that Any is one of all, and that there are none just if nothing can go on.
func isWhatGoes(t *testing.T, p api.Program, c api.Core, all []follow.Move) {
	t.Helper()
	for who := -1; who <= len(c.Threads); who++ {
		m := follow.Move{Kind: follow.Step, N: who}
		if _, _, _, e := follow.Run(p, c, []follow.Move{m}); (e == api.OK) != slices.Contains(all, m) {
			t.Errorf("a step of %d: error %d, among %v", who, e, all)
		}
	}
	if m, ok := follow.Any(p, c); ok != slices.Contains(all, m) {
		t.Errorf("%v, %v is not among %v", m, ok, all)
	}
	if (len(all) == 0) != (core.Over(c) || core.Stuck(c)) {
		t.Errorf("%v of %v", all, c)
	}
}

// isNext asks that n ticks wake some, and fewer none.
func isNext(t *testing.T, p api.Program, c api.Core, n int) {
	t.Helper()
	was := len(core.Ready(c))
	then, _, _, _ := follow.Run(p, c, ticks(n))
	less, _, _, _ := follow.Run(p, c, ticks(n-1))
	if n < 1 || len(core.Ready(then)) == was || len(core.Ready(less)) != was {
		t.Errorf("%d ticks of %v", n, c)
	}
}

// What Any tells, move by move, is a run that goes till nothing can.
func TestRunsOfAnyGo(t *testing.T) {
	p := parent(t)
	p.Funcs[1].Code = in(api.Push, 3, api.Sleep, 0, api.Push, 4, api.Print, 0, api.Exit, 0)
	c := core.New(p)
	var l []follow.Move
	for range 100 {
		m, ok := follow.Any(p, c)
		if !ok {
			break
		}
		c, _ = told(t, p, c, []follow.Move{m}, 1)
		l = append(l, m)
	}
	if want := moves(steps(0, 0, 1, 1), ticks(3), steps(1, 1, 1, 0, 0)); !slices.Equal(l, want) || !core.Over(c) {
		t.Errorf("%v, not %v", l, want)
	}
	isChecked(t, "a run of Any", p, l, events(spawned(0, 1), printed(1, 4), ended(1, 0), printed(0, 0), ended(0, 0)), -1, api.OK)
}

// What the chapter does not allow makes no call fail.
func TestNothingPanics(t *testing.T) {
	r := rand.New(rand.NewSource(125))
	all := append([]int{0, 1, 2, 9, 26, 27}, far...)
	odd := func() int { return all[r.Intn(len(all))] }
	row := func() []int {
		var l []int
		for range r.Intn(3) {
			l = append(l, odd())
		}
		return l
	}
	for range 20000 {
		p := api.Program{Mutexes: r.Intn(3) - 1, Conds: row(), Semas: row(), Chans: row(), Choices: [][]int{row()}[:r.Intn(2)], Threads: odd()}
		for range r.Intn(3) {
			p.Funcs = append(p.Funcs, api.Func{Locals: r.Intn(3) - 1, Code: []api.Instr{{Op: r.Intn(29) - 1, A: odd()}, {Op: r.Intn(27), A: r.Intn(3)}}[:r.Intn(3)]})
		}
		c := api.Core{Now: odd(), Owners: row(), Counts: row(), Bufs: [][]int{row(), row()}[:r.Intn(3)], LockQ: [][]int{row()}[:r.Intn(2)], RecvQ: [][]int{row(), row()}[:r.Intn(3)], SendQ: [][]int{row()}[:r.Intn(2)]}
		for range r.Intn(3) {
			x := api.Thread{State: r.Intn(11) - 1, On: odd(), Stack: row(), Code: odd()}
			for range r.Intn(2) {
				x.Frames = append(x.Frames, api.Frame{Func: r.Intn(3) - 1, Pc: r.Intn(4) - 1, Locals: row()})
			}
			c.Threads = append(c.Threads, x)
		}
		l := append(steps(0, r.Intn(3)), follow.Move{Kind: r.Intn(4) - 1, N: odd()}, follow.Move{N: r.Intn(3)})
		follow.Run(p, c, l)
		follow.Check(p, l, events(printed(0, 0)))
		follow.Any(p, c)
		follow.All(p, c)
	}
}
