package fair_test

import (
	"math"
	"slices"
	"testing"

	"hibernacle/fair"
)

// P14.2

func TestRound(t *testing.T) {
	isList(t, "once", fair.Round(3, 1), row(0, 1, 2))
	isList(t, "twice", fair.Round(3, 2), row(0, 1, 2, 0, 1, 2))
	isList(t, "one worker", fair.Round(1, 4), row(0, 0, 0, 0))
	isList(t, "fewer than one", fair.Round(-5, 2), row(0, 0))
	isList(t, "none", fair.Round(3, 0), nil)
	isList(t, "below 0", fair.Round(3, -1), nil)
	for _, workers := range row(64, 65, math.MaxInt) {
		l := fair.Round(workers, 2)
		isInt(t, "all", len(l), 128)
		isList(t, "all", l[:64], l[64:])
		isInt(t, "all", l[63], 63)
	}
}

// No more than 2^20 numbers: the first ones.
func TestRoundIsBounded(t *testing.T) {
	isInt(t, "just as many", len(fair.Round(64, many/64)), many)
	isInt(t, "one round less", len(fair.Round(64, many/64-1)), many-64)
	isInt(t, "fewer", len(fair.Round(3, many/3)), many-1)
	for _, workers := range row(1, 2, 3, 63, 64) {
		for _, k := range row(many/workers+1, many, many+1, 1<<31, 1<<32, 1<<32+1, 1<<58, 1<<58+1, 1<<62, 1<<62+1, math.MaxInt-1, math.MaxInt) {
			l := fair.Round(workers, k)
			isInt(t, "many", len(l), many)
			isInt(t, "the last one", l[many-1], (many-1)%workers)
		}
		isList(t, "far below 0", fair.Round(workers, math.MinInt), nil)
	}
}

func TestTurn(t *testing.T) {
	l := row(5, 6, 7, 8)
	for by, want := range [][]int{row(5, 6, 7, 8), row(6, 7, 8, 5), row(7, 8, 5, 6), row(8, 5, 6, 7)} {
		for _, n := range row(by, by+4, by+400, by+1<<40, -1-by, -1-by-4, -1-by-400) {
			if got := fair.Turn(l, n); !slices.Equal(got, want) {
				t.Errorf("Turn(%v, %d): %v, not %v", l, n, got, want)
			}
		}
	}
	isList(t, "far above", fair.Turn(l, math.MaxInt), row(8, 5, 6, 7))
	isList(t, "far below", fair.Turn(l, math.MinInt), row(8, 5, 6, 7))
	isList(t, "one more than that", fair.Turn(l, math.MinInt+1), row(7, 8, 5, 6))
	for _, by := range append(row(0, 1), far...) {
		isList(t, "of none", fair.Turn(nil, by), nil)
		isList(t, "of none", fair.Turn(row(), by), nil)
		isList(t, "of one", fair.Turn(row(-9), by), row(-9))
	}
}

func TestEach(t *testing.T) {
	isList(t, "all", told(row(0, 1, 0), 2), row(0, 1, 2))
	isList(t, "some", told(row(2, 0, -1, 1, 5, 0), 2), row(1, 3, 5))
	isList(t, "none", told(row(2, -1, 3), 2), nil)
	isList(t, "of none", told(nil, 2), nil)
	isList(t, "far", told(far, 64), nil)
}

// Who goes through the places may end it, and begin anew.
func TestEachEnds(t *testing.T) {
	each := fair.Each(row(0, 9, 1, 0, 1), 2)
	for most, want := range [][]int{row(0), row(0, 2), row(0, 2, 3), row(0, 2, 3, 4), row(0, 2, 3, 4)} {
		var l []int
		for i := range each {
			if l = append(l, i); len(l) > most {
				break
			}
		}
		isList(t, "ended", l, want)
	}
	// In the midst of one row another one begins.
	n := 0
	for range each {
		for range each {
			n++
		}
	}
	isInt(t, "one in the other", n, 16)
}

func TestFull(t *testing.T) {
	for _, c := range []struct {
		l             []int
		workers, want int
	}{
		{nil, 1, 0}, {nil, 2, 0}, {row(0), 1, 1}, {row(0, 0, 0), 1, 3}, {row(0), 2, 0}, {row(0, 1), 2, 1}, {row(0, 1, 0), 2, 1}, {row(0, 1, 0, 1), 2, 2},
		{row(0, 0, 1, 1), 2, 1}, {row(0, 1, 1, 0, 0), 2, 2}, {row(1, 1, 1), 2, 0}, {row(0, 1, 0, 1), 3, 0}, {row(0, 1, 2, 2, 1, 0, 1), 3, 2},
		{row(0, 9, 1, -1, 1, 9, 0), 2, 2}, {row(9, 9), 1, 0}, {row(9, 0, 9, 0, 9), 1, 2},
	} {
		if got := fair.Full(c.l, c.workers); got != c.want {
			t.Errorf("Full(%v, %d): %d, not %d", c.l, c.workers, got, c.want)
		}
	}
}
