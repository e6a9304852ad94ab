package fair_test

import (
	"testing"

	"hibernacle/fair"
)

// P14.1

// The document's example.
func TestExample(t *testing.T) {
	isFair(t, row(0, 1, 0), 2, row(2, 3, 4), row(1, 0))
}

func TestFair(t *testing.T) {
	for _, c := range []struct {
		l           []int
		workers     int
		within, not []int
	}{
		{row(0), 1, row(1, 2), row(0, -1)},
		{row(0, 0, 0), 1, row(1, 2, 3), row(0, -1)},
		{row(0, 1, 2), 3, row(3, 4), row(1, 2)},
		{row(0, 1, 1, 0), 2, row(3, 4, 5), row(1, 2)},
		{row(1, 1, 0, 1), 2, row(3, 4), row(1, 2)},
		{row(0, 1, 2, 2, 1, 0), 3, row(5, 6), row(3, 4)},
		// One that is picked at the end alone, at the beginning alone, and never.
		{row(0, 0, 0, 1), 2, row(4, 5), row(1, 2, 3)},
		{row(1, 0, 0, 0), 2, row(4, 5), row(1, 2, 3)},
		{row(0, 0, 0, 0), 2, row(5, 6), row(1, 2, 3, 4)},
		{row(0, 1, 0, 1), 3, row(5, 6), row(2, 3, 4)},
		// Numbers that are no worker's take a place, and are no one's.
		{row(0, 7, 0), 1, row(2, 3), row(1)},
		{row(-1, -1), 1, row(3), row(1, 2)},
		{row(0, 2, 1, 0), 2, row(3, 4), row(1, 2)},
		{row(0, 2, 9, 1), 2, row(4), row(1, 2, 3)},
	} {
		isFair(t, c.l, c.workers, c.within, c.not)
	}
}

// Of no picks all is fair, within any number; of some nothing is, within a number below 1.
func TestFairOfNone(t *testing.T) {
	for _, n := range append(row(0, 1, 2, 3), far...) {
		for _, workers := range append(row(0, 1, 2), far...) {
			isFair(t, nil, workers, row(n), nil)
			isFair(t, row(), workers, row(n), nil)
			if n < 1 {
				isFair(t, row(0), workers, nil, row(n))
				isFair(t, row(-1, 0, 0), workers, nil, row(n))
			}
			if n > 64 {
				isFair(t, row(-1, 0, 0), workers, row(n), nil)
			}
		}
	}
}

// Of fewer workers than 1 there is one, of more than 64 there are 64.
func TestWorkersWithin(t *testing.T) {
	all := fair.Round(64, 2)
	for _, workers := range append(row(0), far...) {
		if workers < 1 {
			isFair(t, row(0, 0), workers, row(1), row(0))
			isFair(t, row(0, 1), workers, row(2), row(1))
			isInt(t, "one", len(fair.Counts(all, workers)), 1)
			isInt(t, "one", fair.Full(all, workers), 2)
			isList(t, "one", told(all, workers), row(0, 64))
		} else {
			isFair(t, all, workers, row(64), row(63))
			isFair(t, all[:127], workers, row(64, 127), row(62, 63))
			isFair(t, all[:63], workers, row(64), row(62, 63))
			isInt(t, "Least", fair.Least(all, workers), 64)
			isInt(t, "64", len(fair.Counts(all, workers)), 64)
			isInt(t, "64", fair.Full(all, workers), 2)
			isInt(t, "64", len(told(all, workers)), 128)
		}
		isInt(t, "Round", len(fair.Round(workers, 3)), 3*workersOf(workers))
	}
}

func TestLeast(t *testing.T) {
	for _, c := range []struct {
		l             []int
		workers, want int
	}{
		{nil, 1, 1}, {nil, 64, 1}, {row(0), 1, 1}, {row(0), 2, 2}, {row(1), 2, 2}, {row(1), 1, 2},
		{row(0, 1), 2, 2}, {row(0, 1, 0), 2, 2}, {row(0, 0, 1), 2, 3}, {row(1, 0, 0), 2, 3}, {row(0, 1, 1, 1, 0), 2, 4},
		{row(0, 0, 0), 1, 1}, {row(0, 0, 0), 2, 4}, {row(0, 1, 2, 1, 2, 0), 3, 5}, {row(5, 5, 5), 2, 4}, {row(0, -1, 1), 2, 3}, {row(0, -1, 2, 1), 2, 4},
	} {
		if got := fair.Least(c.l, c.workers); got != c.want {
			t.Errorf("Least(%v, %d): %d, not %d", c.l, c.workers, got, c.want)
		}
	}
}

func TestCounts(t *testing.T) {
	isList(t, "none", fair.Counts(nil, 3), row(0, 0, 0))
	isList(t, "one", fair.Counts(row(1), 3), row(0, 1, 0))
	isList(t, "some", fair.Counts(row(2, 0, 2, 2, 1, 0), 3), row(2, 1, 3))
	isList(t, "others", fair.Counts(row(2, 0, 3, -1, 2, 4, 1000), 3), row(1, 0, 2))
	isList(t, "far", fair.Counts(append(row(1), far...), 2), row(0, 1))
	isList(t, "one worker", fair.Counts(row(1, 0, 1, 0), 1), row(2))
}

func TestGap(t *testing.T) {
	for _, c := range []struct {
		l       []int
		w, want int
	}{
		{nil, 0, 0}, {row(0), 0, 0}, {row(0), 1, 1}, {row(0, 1), 0, 1}, {row(0, 1), 1, 1}, {row(0, 1), 2, 2},
		{row(1, 1, 0, 1), 0, 2}, {row(1, 0, 1, 1), 0, 2}, {row(0, 1, 2, 3, 0), 0, 3}, {row(0, 1, 2, 3, 0), 2, 2}, {row(0, 1, 0, 1, 1, 0, 1), 0, 2},
		{row(0, 0, 0), 0, 0}, {row(-1, 70, 0, 9), 0, 2}, {row(-1, 70, 0, 9), -1, 3}, {row(-1, 70, 0, 9), 70, 2}, {row(0, 1, 2), -1, 3}, {row(0, 1, 2), 64, 3},
	} {
		if got := fair.Gap(c.l, c.w); got != c.want {
			t.Errorf("Gap(%v, %d): %d, not %d", c.l, c.w, got, c.want)
		}
	}
	for _, w := range far {
		isInt(t, "far", fair.Gap(row(0, 1, 2, 3), w), 4)
	}
}
