package ring_test

import (
	"slices"
	"testing"

	"hibernacle/api"
	"hibernacle/ring"
)

// P6.3

// isMoved asks that Move of these to those is as told, and that both rings go on well.
func isMoved(t *testing.T, room, on int, l []int, to *ring.Ring[int], has []int) {
	t.Helper()
	from := turned(room, on, l...)
	there := to.Room()
	n := ring.Move(from, to)
	want := min(len(l), there)
	if n != want {
		t.Errorf("Move of %v to room for %d: %d, not %d", l, there, n, want)
	}
	has = append(slices.Clone(has), l[:want]...)
	isRing(t, "from", from, room-len(l)+want, l[want:]...)
	isRing(t, "to", to, there-want, has...)
	isFilled(t, from, slices.Clone(l[want:]))
	isFilled(t, to, has)
}

func TestMove(t *testing.T) {
	each(func(room, on int, l []int) {
		each(func(there, at int, has []int) {
			for i := range has {
				has[i] += 20
			}
			isMoved(t, room, on, l, turned(there, at, has...), has)
		})
	})
}

func TestMoveOfMany(t *testing.T) {
	l := numbers(0, most)
	isMoved(t, most, 500, l, ring.New[int](most), nil)
	isMoved(t, most, 1, l, turned(most, 900, 7, 8), []int{7, 8})
	isMoved(t, most, 0, l, ring.New[int](1), nil)
	isMoved(t, 3, 0, []int{1, 2, 3}, turned(most, 1023, l[1:]...), l[1:])
}

func TestMoveOfTexts(t *testing.T) {
	from, to := ring.New(3, "a", "b", "c"), ring.New(3, "d")
	if n := ring.Move(from, to); n != 2 {
		t.Errorf("Move: %d", n)
	}
	isRing(t, "from", from, 2, "c")
	isRing(t, "to", to, 0, "d", "a", "b")
	if n := ring.Move(from, to); n != 0 {
		t.Errorf("Move without room: %d", n)
	}
	isRing(t, "from", from, 2, "c")
	isPopped(t, "to", to, "d", api.OK)
	if n := ring.Move(from, to); n != 1 {
		t.Errorf("Move of the last: %d", n)
	}
	if n := ring.Move(from, to); n != 0 {
		t.Errorf("Move of none: %d", n)
	}
	isRing(t, "from", from, 3)
	isRing(t, "to", to, 0, "a", "b", "c")
}

// What the chapter does not allow ends, and changes nothing.
func TestMoveOfOneRing(t *testing.T) {
	r := turned(4, 3, 10, 11)
	if n := ring.Move(r, r); n != 0 {
		t.Errorf("Move of one ring: %d", n)
	}
	if n := ring.Move(r, nil) + ring.Move(nil, r) + ring.Move[int](nil, nil); n != 0 {
		t.Errorf("Move of no ring: %d", n)
	}
	isRing(t, "one ring", r, 2, 10, 11)
}
