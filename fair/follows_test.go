package fair_test

import (
	"math/rand"
	"slices"
	"testing"

	"hibernacle/fair"
)

// P14.1 to P14.3

// Of all short rows of picks, and of some by chance, each call tells what the chapter's words tell.
func TestAllIsAsTheWords(t *testing.T) {
	for workers := 1; workers <= 3; workers++ {
		for n := range 7 {
			allPicks(n, workers, func(l []int) { isAsTheWords(t, l, workers) })
		}
	}
	r := rand.New(rand.NewSource(141))
	for range 1000 {
		workers := 1 + r.Intn(5)
		if r.Intn(20) == 0 {
			workers = 1 + r.Intn(64)
		}
		isAsTheWords(t, anyPicks(r, workers, 40), workers)
	}
}

// allPicks calls do with each row of n numbers from 0 to workers, which is no worker's.
func allPicks(n, workers int, do func(l []int)) {
	l := make([]int, n)
	var put func(i int)
	put = func(i int) {
		if i == n {
			do(l)
			return
		}
		for l[i] = 0; l[i] <= workers; l[i]++ {
			put(i + 1)
		}
	}
	put(0)
}

// isAsTheWords asks that all that is told of some picks is what the words tell.
func isAsTheWords(t *testing.T, l []int, workers int) {
	t.Helper()
	least := 1
	for !isWithin(l, workers, least) {
		least++
	}
	isInt(t, "Least", fair.Least(l, workers), least)
	for n := -1; n < len(l)+3; n++ {
		if got := fair.Fair(l, workers, n); got != isWithin(l, workers, n) {
			t.Errorf("Fair(%v, %d, %d): %v", l, workers, n, got)
		}
	}
	isInt(t, "Full", fair.Full(l, workers), mostPieces(l, workers))
	var counts, places []int
	for w := range workers {
		n, gap := 0, 0
		for i, v := range l {
			if v == w {
				n++
			}
			for to := i + 1; to <= len(l) && !slices.Contains(l[i:to], w); to++ {
				gap = max(gap, to-i)
			}
		}
		counts = append(counts, n)
		isInt(t, "Gap", fair.Gap(l, w), gap)
	}
	for i, w := range l {
		if w >= 0 && w < workers {
			places = append(places, i)
		}
	}
	isList(t, "Counts", fair.Counts(l, workers), counts)
	isList(t, "Each", told(l, workers), places)
	if t.Failed() {
		t.Fatalf("of %v, of %d workers", l, workers)
	}
}

// Picks are fair within Least, and within all above it, and in none below; in as many pieces as n fits into them, or more.
func TestLeastIsTheBound(t *testing.T) {
	r := rand.New(rand.NewSource(142))
	for range 100 {
		workers := 1 + r.Intn(64)
		l := anyPicks(r, workers, 600)
		least := fair.Least(l, workers)
		for n := 1; n < len(l)+5; n++ {
			if got := fair.Fair(l, workers, n); got != (n >= least) {
				t.Fatalf("fair within %d: %v, though the least is %d", n, got, least)
			}
			if n >= least && fair.Full(l, workers) < len(l)/n {
				t.Fatalf("%d picks, fair within %d, are cut into %d", len(l), n, fair.Full(l, workers))
			}
		}
	}
}

// Rounds are fair within the number of workers, however they are turned.
func TestRoundsAreFair(t *testing.T) {
	for workers := 1; workers <= 64; workers++ {
		for k := 1; k < 4; k++ {
			l := fair.Round(workers, k)
			isInt(t, "Full", fair.Full(l, workers), k)
			isList(t, "Counts", fair.Counts(l, workers), slices.Repeat(row(k), workers))
			for by := -3; by < workers; by += 1 + workers/5 {
				turned := fair.Turn(l, by)
				isInt(t, "Least", fair.Least(turned, workers), workers)
				isFair(t, turned, workers, row(workers, workers+1), row(0, workers-1))
				isInt(t, "Full", fair.Full(turned, workers), k)
			}
		}
	}
}

// Many picks are gone through once, not once for each n.
func TestManyPicks(t *testing.T) {
	l := fair.Round(64, many)
	isInt(t, "Least", fair.Least(l, 64), 64)
	isFair(t, l, 64, row(64, 1000, many/2, many), row(63, 1))
	isInt(t, "Full", fair.Full(l, 64), many/64)
	isInt(t, "Gap", fair.Gap(l, 5), 63)
	isList(t, "Counts", fair.Counts(l, 64), slices.Repeat(row(many/64), 64))
	isInt(t, "Each", len(told(l, 32)), many/2)
	l[many/2+1] = 0
	isInt(t, "Least", fair.Least(l, 64), 128)
}

// R4: nothing that is handed in is changed or kept, its spare room neither; what is answered is new memory.
func TestMemory(t *testing.T) {
	spare := row(0, 1, 1, 0, 7, mark, mark, mark, mark, mark)
	l := spare[:5]
	each := fair.Each(l, 2)
	turned, stays := fair.Turn(l, 2), fair.Turn(l, 0)
	fair.Fair(l, 2, 2)
	fair.Least(l, 2)
	fair.Counts(l, 2)
	fair.Gap(l, 1)
	fair.Full(l, 2)
	isList(t, "handed in", spare, row(0, 1, 1, 0, 7, mark, mark, mark, mark, mark))
	_ = append(turned, 9, 9)
	_ = append(stays, 9, 9)
	turned[0], stays[0] = 9, 9
	isList(t, "an answer is changed", spare, row(0, 1, 1, 0, 7, mark, mark, mark, mark, mark))
	copy(l, row(8, 8, 8, 8, 0))
	isList(t, "what was handed in is changed", slices.Collect(each), row(0, 1, 2, 3))
	isList(t, "what was handed in is changed", turned, row(9, 0, 7, 0, 1))
	isList(t, "what was handed in is changed", stays, row(9, 1, 1, 0, 7))
	counts, again := fair.Counts(l, 2), fair.Counts(l, 2)
	counts[0] = 9
	isList(t, "again", again, row(1, 0))
	round, same := fair.Round(2, 1), fair.Round(2, 1)
	round[0] = 9
	isList(t, "again", same, row(0, 1))
}

func TestNothingPanics(t *testing.T) {
	lists := [][]int{nil, row(), row(0), row(-1), row(64), far, append(fair.Round(64, 2), far...)}
	for _, l := range lists {
		for _, a := range append(row(0, 1, 2), far...) {
			for _, b := range append(row(0, 1, 2), far...) {
				fair.Fair(l, a, b)
				fair.Round(a, min(b, 1000))
			}
			fair.Least(l, a)
			fair.Counts(l, a)
			fair.Gap(l, a)
			fair.Turn(l, a)
			told(l, a)
			fair.Full(l, a)
		}
	}
}
