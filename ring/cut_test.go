package ring_test

import (
	"slices"
	"testing"

	"hibernacle/api"
	"hibernacle/ring"
)

// P6.2

// Each choice of what is taken out, of rings that begin at each slot.
func TestCut(t *testing.T) {
	each(func(room, on int, l []int) {
		for choice := range 1 << len(l) {
			r := turned(room, on, l...)
			var asked, stay []int
			n := r.Cut(func(v int) bool {
				asked = append(asked, v)
				out := choice>>(v-10)&1 == 1
				if !out {
					stay = append(stay, v)
				}
				return out
			})
			if !slices.Equal(asked, l) {
				t.Errorf("Cut of %v: it asked of %v", l, asked)
			}
			if n != len(l)-len(stay) {
				t.Errorf("Cut of %v: %d, where %v stay", l, n, stay)
			}
			isRing(t, "Cut", r, room-len(stay), stay...)
			isFilled(t, r, stay)
		}
	})
}

// isFilled asks that r, which has these, takes others behind them till it is full, and gives all of them.
func isFilled(t *testing.T, r *ring.Ring[int], has []int) {
	t.Helper()
	for i := range r.Room() {
		isPushed(t, "behind Cut", r, 70+i, api.OK)
		has = append(has, 70+i)
	}
	isPushed(t, "behind Cut", r, 99, api.ErrFull)
	for _, v := range has {
		isPopped(t, "behind Cut", r, v, api.OK)
	}
	isPopped(t, "behind Cut", r, 0, api.ErrEmpty)
}

func TestCutOfAlikeThings(t *testing.T) {
	r := ring.New(6, 4, 5, 4, 4, 6)
	if n := r.Cut(func(v int) bool { return v == 4 }); n != 3 {
		t.Errorf("Cut: %d", n)
	}
	isRing(t, "Cut", r, 4, 5, 6)
	left := 2
	r = ring.New(4, 4, 4, 4, 4)
	n := r.Cut(func(int) bool { left--; return left >= 0 })
	if n != 2 || left != -2 {
		t.Errorf("Cut of the first two: %d, %d", n, left)
	}
	isRing(t, "Cut of the first two", r, 2, 4, 4)
}

func TestCutOfMany(t *testing.T) {
	r := turned(most, 700, numbers(0, most)...)
	if n := r.Cut(func(v int) bool { return v%2 == 0 }); n != 512 {
		t.Errorf("Cut: %d", n)
	}
	var odd []int
	for v := 1; v < most; v += 2 {
		odd = append(odd, v)
	}
	isRing(t, "Cut of many", r, 512, odd...)
}

// What is asked may look at the ring, and finds it as it was.
func TestCutIsSeenOnceItIsOver(t *testing.T) {
	r := turned(4, 3, 10, 11, 12)
	n := r.Cut(func(v int) bool {
		isRing(t, "meanwhile", r, 1, 10, 11, 12)
		return v != 11
	})
	if n != 2 {
		t.Errorf("Cut: %d", n)
	}
	isRing(t, "Cut", r, 3, 11)
}

func TestCutByNothing(t *testing.T) {
	r := ring.New(4, 10, 11)
	if n := r.Cut(nil); n != 0 {
		t.Errorf("Cut: %d", n)
	}
	isRing(t, "Cut by nothing", r, 2, 10, 11)
}

func TestLenAndRoom(t *testing.T) {
	each(func(room, on int, l []int) {
		r := turned(room, on, l...)
		if r.Len() != len(l) || r.Room() != room-len(l) {
			t.Errorf("%d of room %d: Len %d, Room %d", len(l), room, r.Len(), r.Room())
		}
	})
}

func TestAll(t *testing.T) {
	each(func(room, on int, l []int) {
		r := turned(room, on, l...)
		for range 2 {
			got, ok := told(r)
			if !slices.Equal(got, l) || !ok {
				t.Errorf("All of %v: %v, %v", l, got, ok)
			}
		}
		isRing(t, "All", r, room-len(l), l...)
	})
}

func TestAllEndsWhereItIsLeft(t *testing.T) {
	r := turned(5, 3, 10, 11, 12, 13)
	for last := range 5 {
		var got []int
		r.All()(func(i, v int) bool {
			if v != 10+i {
				t.Errorf("%d is told with %d", v, i)
			}
			got = append(got, v)
			return len(got) <= last
		})
		if !slices.Equal(got, numbers(10, min(last+1, 4))) {
			t.Errorf("left behind %d: %v", last, got)
		}
	}
	isRing(t, "All, left", r, 1, 10, 11, 12, 13)
}

// What All answers is new: it tells what the ring had, as often as it is asked, whatever becomes of the ring.
func TestAllTellsWhatThereWas(t *testing.T) {
	r := turned(4, 3, 10, 11, 12)
	all := r.All()
	var got []int
	for _, v := range r.All() {
		got = append(got, v)
		r.Pop()
		r.Push(40 + v)
		r.Push(60 + v)
	}
	if !slices.Equal(got, []int{10, 11, 12}) {
		t.Errorf("All, with the ring changed meanwhile: %v", got)
	}
	r.Cut(func(int) bool { return true })
	for range 2 {
		got = nil
		for _, v := range all {
			got = append(got, v)
		}
		if !slices.Equal(got, []int{10, 11, 12}) {
			t.Errorf("All, with the ring changed then: %v", got)
		}
	}
	isRing(t, "emptied", r, 4)
}
