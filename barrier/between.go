package barrier

import (
	"slices"

	"hibernacle/api"
	"hibernacle/stack"
)

// Between is what changed from one state to another one: its threads, and its things.
func Between(was, now api.Core) ([]int, []Thing) {
	var things []Thing
	tell := func(kind int, lists ...[]int) {
		// A thing of which several lists tell is one thing still.
		places := slices.Concat(lists...)
		slices.Sort(places)
		for _, n := range slices.Compact(places) {
			things = append(things, Thing{Kind: kind, N: n})
		}
	}
	tell(Mutex, changed(was.Owners, now.Owners, sameNumber), changed(was.LockQ, now.LockQ, sameRow))
	tell(Cond, changed(was.WaitQ, now.WaitQ, sameRow))
	tell(Sema, changed(was.Counts, now.Counts, sameNumber), changed(was.DownQ, now.DownQ, sameRow))
	tell(Chan, changed(was.Bufs, now.Bufs, sameRow), changed(was.SendQ, now.SendQ, sameRow), changed(was.RecvQ, now.RecvQ, sameRow))
	return changed(was.Threads, now.Threads, stack.Same), things
}

// changed is the places at which a list has what it had not there, rising.
func changed[T any](was, now []T, same func(a, b T) bool) []int {
	var l []int
	for n, v := range now {
		if n >= len(was) || !same(was[n], v) {
			l = append(l, n)
		}
	}
	return l
}

// sameNumber tells whether two numbers are one.
func sameNumber(a, b int) bool {
	return a == b
}

// sameRow tells whether two rows are one.
func sameRow(a, b []int) bool {
	return slices.Equal(a, b)
}
