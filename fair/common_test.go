package fair_test

import (
	"math"
	"math/rand"
	"slices"
	"testing"

	"hibernacle/fair"
)

// mark stands in all spare room, where nothing that the package does may reach.
const mark = -987654321

// many is how many numbers a Round has at most.
const many = 1 << 20

// far is numbers that lie far out.
var far = []int{math.MinInt, math.MinInt + 1, -1 << 61, -1 << 32, -1 << 31, -65, -64, -1, 64, 65, 1 << 31, 1 << 32, 1<<32 + 1, 1 << 61, math.MaxInt - 1, math.MaxInt}

// row is some numbers.
func row(l ...int) []int { return l }

// isInt asks that a call answers that number.
func isInt(t *testing.T, name string, got, want int) {
	t.Helper()
	if got != want {
		t.Errorf("%s: %d, not %d", name, got, want)
	}
}

// isList asks that a call answers that list.
func isList(t *testing.T, name string, got, want []int) {
	t.Helper()
	if !slices.Equal(got, want) {
		t.Errorf("%s: %v, not %v", name, got, want)
	}
}

// isFair asks that picks are fair within some numbers, and not within others.
func isFair(t *testing.T, l []int, workers int, within, not []int) {
	t.Helper()
	for _, n := range within {
		if !fair.Fair(l, workers, n) {
			t.Errorf("%v of %d workers: not fair within %d", l, workers, n)
		}
	}
	for _, n := range not {
		if fair.Fair(l, workers, n) {
			t.Errorf("%v of %d workers: fair within %d", l, workers, n)
		}
	}
}

// workersOf is how many workers there are, where so many are told.
func workersOf(workers int) int {
	switch {
	case workers < 1:
		return 1
	case workers > 64:
		return 64
	}
	return workers
}

// hasAll tells whether each worker is among some picks.
func hasAll(l []int, workers int) bool {
	for w := range workersOf(workers) {
		if !slices.Contains(l, w) {
			return false
		}
	}
	return true
}

// isWithin is the chapter's word of fair picks: each n of them, side by side, are looked at.
func isWithin(l []int, workers, n int) bool {
	if n < 1 {
		return len(l) == 0
	}
	for from := 0; from+n <= len(l); from++ {
		if !hasAll(l[from:from+n], workers) {
			return false
		}
	}
	return true
}

// mostPieces is in how many pieces l may be cut, each of which has all workers: all ways to cut it are gone through.
func mostPieces(l []int, workers int) int {
	best := make([]int, len(l)+1) // of the first ones, so many
	for to := range best {
		for from := range to {
			if hasAll(l[from:to], workers) && (from == 0 || best[from] > 0) {
				best[to] = max(best[to], best[from]+1)
			}
		}
	}
	return best[len(l)]
}

// anyPicks is some picks of so many workers, now and then with numbers that are no worker's.
func anyPicks(r *rand.Rand, workers, most int) []int {
	l := make([]int, r.Intn(most+1))
	strangers := r.Intn(3) == 0
	for i := range l {
		l[i] = r.Intn(workers)
		if strangers && r.Intn(6) == 0 {
			l[i] = row(-1, workers, workers+1, -workers, math.MinInt, math.MaxInt)[r.Intn(6)]
		}
	}
	return l
}

// told is all that Each tells.
func told(l []int, workers int) []int {
	return slices.Collect(fair.Each(l, workers))
}
