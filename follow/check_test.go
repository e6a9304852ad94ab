package follow_test

import (
	"math"
	"slices"
	"testing"

	"hibernacle/api"
	"hibernacle/code"
	"hibernacle/core"
	"hibernacle/follow"
)

// P12.1: Check

// isChecked asks what Check tells, and that it changes nothing.
func isChecked(t *testing.T, name string, p api.Program, l []follow.Move, seen []api.Event, at int, e api.Errno) {
	t.Helper()
	prog, list, trace := code.Clone(p), roomy(l, follow.Move{Kind: mark}), roomy(seen, api.Event{Kind: mark})
	for range 2 {
		if got, f := follow.Check(prog, list, trace); got != at || f != e {
			t.Errorf("%s: %v of %v: %d, error %d, not %d, %d", name, seen, l, got, f, at, e)
		}
	}
	isOther := func(e api.Event) bool { return e != api.Event{Kind: mark} }
	if !code.Same(prog, p) || !slices.Equal(list, l) || !slices.Equal(trace, seen) || slices.ContainsFunc(spare(trace), isOther) {
		t.Errorf("%s: what was handed in is changed", name)
	}
}

// family is a program of which much is seen, moves of it, and what is seen of them.
func family(t *testing.T) (api.Program, []follow.Move, []api.Event) {
	t.Helper()
	l := steps(0, 1, 0, 1, 1, 0, 0)
	return parent(t), l, events(spawned(0, 1), printed(1, 4), ended(1, api.Under), printed(0, api.Under), ended(0, api.Fine))
}

func TestCheck(t *testing.T) {
	p, seen := example(t)
	isChecked(t, "the example", p, steps(0, 0, 0), seen, -1, api.OK)
	isChecked(t, "a part of it", p, steps(0, 0), seen[:1], -1, api.OK)
	isChecked(t, "none of it", p, nil, nil, -1, api.OK)
	isChecked(t, "empty lists", p, []follow.Move{}, []api.Event{}, -1, api.OK)
	isChecked(t, "nothing to be seen", p, steps(0), nil, -1, api.OK)
	isChecked(t, "nothing to be seen of ticks", p, moves(ticks(3), ticks(0), ticks(-4)), nil, -1, api.OK)
	p, l, seen := family(t)
	isChecked(t, "much", p, l, seen, -1, api.OK)
	isChecked(t, "one behind the other", p, steps(0, 1, 1, 1, 0, 0, 0), seen, -1, api.OK)
	p = sleeper(t)
	isChecked(t, "one that sleeps", p, moves(steps(0, 0, 0, 0), ticks(1), ticks(2), steps(0, 0)), events(printed(0, 7), printed(0, 8)), -1, api.OK)
}

// others is events that differ from e, each in one of its numbers.
func others(e api.Event) []api.Event {
	var l []api.Event
	for _, by := range []int{1, -1, 1 << 8, 1 << 32, math.MinInt} {
		l = append(l, api.Event{Kind: e.Kind + by, Thread: e.Thread, N: e.N}, api.Event{Kind: e.Kind, Thread: e.Thread + by, N: e.N}, api.Event{Kind: e.Kind, Thread: e.Thread, N: e.N + by})
	}
	return l
}

func TestCheckOfAnotherEvent(t *testing.T) {
	p, l, seen := family(t)
	for i, e := range seen {
		for _, other := range others(e) {
			trace := slices.Clone(seen)
			trace[i] = other
			isChecked(t, "another event", p, l, trace, i, api.ErrForm)
			isChecked(t, "another event, the last one", p, l, trace[:i+1], i, api.ErrForm)
			isChecked(t, "another event, and more", p, l, append(trace, e), i, api.ErrForm)
			// The first one counts.
			for j := i; j < len(trace); j++ {
				trace[j] = other
			}
			isChecked(t, "other events", p, l, trace, i, api.ErrForm)
		}
	}
}

func TestCheckOfOtherRows(t *testing.T) {
	p, l, seen := family(t)
	for i := range seen {
		isChecked(t, "one is missing", p, l, slices.Delete(slices.Clone(seen), i, i+1), i, api.ErrForm)
		isChecked(t, "one is there twice", p, l, slices.Insert(slices.Clone(seen), i, seen[i]), i+1, api.ErrForm)
		isChecked(t, "one more", p, l, slices.Insert(slices.Clone(seen), i, printed(9, 9)), i, api.ErrForm)
	}
	slices.Reverse(seen)
	isChecked(t, "from the end", p, l, seen, 0, api.ErrForm)
}

func TestCheckOfMoreOrLess(t *testing.T) {
	p, l, seen := family(t)
	for n := range len(seen) {
		isChecked(t, "less is seen", p, l, seen[:n], n, api.ErrForm)
	}
	for _, e := range []api.Event{{}, ended(0, 0), ended(1, 0), {Kind: 3}} {
		isChecked(t, "more is seen", p, l, append(slices.Clone(seen), e), len(seen), api.ErrForm)
		isChecked(t, "much more is seen", p, l, append(slices.Clone(seen), e, e, e), len(seen), api.ErrForm)
		isChecked(t, "of no moves, more", p, nil, events(e), 0, api.ErrForm)
		isChecked(t, "of moves that show nothing, more", p, ticks(1), events(e, e), 0, api.ErrForm)
	}
	isChecked(t, "moves that are missing", p, l[:len(l)-1], seen, len(seen)-1, api.ErrForm)
}

// A move that does not go comes first, whatever was seen ahead of it, and behind.
func TestCheckOfMovesThatDoNotGo(t *testing.T) {
	p, l, seen := family(t)
	for at := range len(l) + 1 {
		for _, trace := range [][]api.Event{nil, seen, seen[:1], {{Kind: 7}}, append(slices.Clone(seen), printed(0, 0))} {
			for _, n := range append([]int{2, 3}, far...) {
				isChecked(t, "no thread", p, slices.Insert(slices.Clone(l), at, steps(n)...), trace, at, api.ErrArg)
				isChecked(t, "a kind that is none", p, slices.Insert(slices.Clone(l), at, follow.Move{Kind: 2, N: n}), trace, at, api.ErrArg)
				isChecked(t, "two that do not go", p, slices.Insert(slices.Clone(l), at, follow.Move{Kind: -1}, follow.Move{N: 1}), trace, at, api.ErrArg)
			}
			isChecked(t, "one that is over", p, moves(l, ticks(1), steps(1, 7)), trace, len(l)+1, api.ErrState)
			isChecked(t, "one that waits", p, moves(steps(0, 0, 0), l), trace, 2, api.ErrState)
			isChecked(t, "one that waits, then a kind that is none", p, append(steps(0, 0, 0), follow.Move{Kind: 2}), trace, 2, api.ErrState)
		}
		isChecked(t, "what went was seen", p, append(slices.Clone(l[:at]), follow.Move{Kind: 9}), seenOf(t, p, l[:at]), at, api.ErrArg)
	}
}

// seenOf is what is seen of moves from New on, by chapter 11.
func seenOf(t *testing.T, p api.Program, l []follow.Move) []api.Event {
	t.Helper()
	_, seen := told(t, p, core.New(p), l, len(l))
	return seen
}

// Check's run begins at New: one that goes on from a later state is another one.
func TestCheckBeginsAtNew(t *testing.T) {
	p, l, seen := family(t)
	isChecked(t, "the thread 1 is not there", p, l[1:], seen[1:], 0, api.ErrArg)
	p, seen = example(t)
	isChecked(t, "moves that go at New, too", p, steps(0, 0), seen, 1, api.ErrForm)
	isChecked(t, "the number is pushed first", p, steps(0), events(printed(0, 5)), 0, api.ErrForm)
}
