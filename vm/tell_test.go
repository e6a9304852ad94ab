package vm_test

import (
	"math"
	"slices"
	"testing"

	"hibernacle/api"
	"hibernacle/stack"
	"hibernacle/vm"
)

// P5.1: Tell

// isTold asks that x, told l, is want.
func isTold(t *testing.T, name string, x api.Thread, l []int, want api.Thread, could bool) {
	t.Helper()
	in, row := roomy(x), roomyNumbers(l)
	y, ok := vm.Tell(in, row...)
	isThread(t, name, y, want)
	if ok != could {
		t.Errorf("%s: %v", name, ok)
	}
	isUntouched(t, name, in, x, y)
	if !slices.Equal(row, l) || !numbersAreMarked(spare(row)) {
		t.Errorf("%s: the numbers are changed", name)
	}
}

func TestTell(t *testing.T) {
	isTold(t, "none", thread(0, 8), nil, thread(0, 8), true)
	isTold(t, "one", thread(0, 8), []int{5}, thread(0, 8, 5), true)
	isTold(t, "two, in their row", thread(0), []int{5, -6}, thread(0, 5, -6), true)
	isTold(t, "three", alone(2, 8, 9), []int{0, 0, 1}, alone(2, 8, 9, 0, 0, 1), true)
	isTold(t, "such as are kept", thread(0), []int{most, -most}, thread(0, most, -most), true)
	isTold(t, "such as are not", thread(0), []int{most + 1, -most - 1, math.MaxInt, math.MinInt}, thread(0, most, -most, most, -most), true)
}

func TestTellWithoutRoom(t *testing.T) {
	for was := range 17 {
		for told := range 20 {
			l := numbers(was + told)
			if was+told <= 16 {
				isTold(t, "room", thread(0, l[:was]...), l[was:], thread(0, l...), true)
			} else {
				isTold(t, "no room", thread(0, l[:was]...), l[was:], ended(api.Over), false)
			}
		}
	}
}

func TestTellKeepsTheState(t *testing.T) {
	for state := range api.Dead {
		is := func(x *api.Thread) { x.State, x.On = state, 7 }
		isTold(t, "state", with(thread(1), is), []int{5}, with(thread(1, 5), is), true)
		isTold(t, "state, no room", with(thread(1, numbers(16)...), is), []int{5}, ended(api.Over), false)
	}
}

// What is told is found by the next instruction.
func TestWhatIsToldIsPopped(t *testing.T) {
	p := program(api.Instr{Op: api.Select, A: 1}, api.Instr{Op: api.Sub})
	x, _ := vm.Step(p, stack.New(p, 0))
	x, _ = vm.Tell(x, 10, 3)
	x, _ = vm.Step(p, x)
	isThread(t, "sub", x, api.Thread{Frames: []api.Frame{{Pc: 2, Locals: []int{0, 0}}}, Stack: []int{7}})
}
