package ring_test

import (
	"slices"
	"testing"

	"hibernacle/api"
	"hibernacle/ring"
)

// P6.1

func TestNew(t *testing.T) {
	isRing(t, "room 2, of 7, 8, 9", ring.New(2, 7, 8, 9), 0, 7, 8)
	isRing(t, "room 2, of 7", ring.New(2, 7), 1, 7)
	isRing(t, "room 2, of none", ring.New[int](2), 2)
	for room := range 6 {
		for n := range 12 {
			l := numbers(1, n)
			has := min(room, n)
			isRing(t, "New", ring.New(room, l...), room-has, l[:has]...)
		}
	}
}

func TestNewKeepsTheNearerRoom(t *testing.T) {
	for _, c := range []struct{ room, want int }{
		{-1, 0}, {0, 0}, {1, 1}, {1023, 1023}, {1024, 1024}, {1025, 1024}, {2048, 1024}, {1 << 16, 1024},
	} {
		isRing(t, "New of none", ring.New[int](c.room), c.want)
		l := numbers(1, 1030)
		isRing(t, "New of many", ring.New(c.room, l...), 0, l[:c.want]...)
	}
	for _, room := range far {
		want := 0
		if room > 0 {
			want = 1024
		}
		isRing(t, "New far out", ring.New[int](room), want)
		isRing(t, "New far out, of one", ring.New(room, 5), max(want-1, 0), []int{5}[:min(want, 1)]...)
	}
}

func TestNewOfManyThings(t *testing.T) {
	isRing(t, "texts", ring.New(3, "a", "", "b", "c"), 0, "a", "", "b")
	type pair struct{ a, b int }
	isRing(t, "pairs", ring.New(3, pair{1, 2}, pair{}), 1, pair{1, 2}, pair{})
	isRing(t, "zeros", ring.New(4, 0, 0), 2, 0, 0)
	r := ring.New(2, []int{1}, nil, []int{2})
	if l, _ := told(r); len(l) != 2 || !slices.Equal(l[0], []int{1}) || l[1] != nil {
		t.Errorf("lists: %v", l)
	}
}

func TestNewKeepsNothingThatIsHandedIn(t *testing.T) {
	for _, room := range []int{0, 1, 2, 3, 4, 8, 1024} {
		whole := []int{1, 2, 3, 91, 92, 93}
		r := ring.New(room, whole[:3]...)
		for range 3 {
			r.Pop()
			r.Push(50)
			r.Push(51)
		}
		r.Cut(func(v int) bool { return v == 50 })
		if !slices.Equal(whole, []int{1, 2, 3, 91, 92, 93}) {
			t.Errorf("room %d: what was handed in is %v", room, whole)
		}
		r = ring.New(room, whole[:3]...)
		clear(whole)
		has := min(room, 3)
		isRing(t, "once what was handed in is another", r, room-has, []int{1, 2, 3}[:has]...)
	}
}

func TestPush(t *testing.T) {
	each(func(room, on int, l []int) {
		r := turned(room, on, l...)
		has := slices.Clone(l)
		for v := 50; len(has) < room; v++ {
			isPushed(t, "room", r, v, api.OK)
			has = append(has, v)
			isRing(t, "Push", r, room-len(has), has...)
		}
		for range 2 {
			isPushed(t, "no room", r, 90, api.ErrFull)
			isRing(t, "Push without room", r, 0, has...)
		}
	})
}

func TestPushHasRoomForAThousand(t *testing.T) {
	r := ring.New[int](5000)
	for i := range most {
		isPushed(t, "many", r, i, api.OK)
	}
	isPushed(t, "many", r, 7, api.ErrFull)
	isRing(t, "many", r, 0, numbers(0, most)...)
	isPopped(t, "many", r, 0, api.OK)
	isPushed(t, "many", r, 7, api.OK)
	isRing(t, "many", r, 0, append(numbers(1, most-1), 7)...)
}

func TestPop(t *testing.T) {
	each(func(room, on int, l []int) {
		r := turned(room, on, l...)
		for i, v := range l {
			isPopped(t, "Pop", r, v, api.OK)
			isRing(t, "Pop", r, room-len(l)+i+1, l[i+1:]...)
		}
		for range 2 {
			isPopped(t, "Pop of none", r, 0, api.ErrEmpty)
			isRing(t, "Pop of none", r, room)
		}
	})
	r := ring.New(2, "a")
	isPopped(t, "a text", r, "a", api.OK)
	isPopped(t, "no text", r, "", api.ErrEmpty)
}

func TestPeek(t *testing.T) {
	each(func(room, on int, l []int) {
		r := turned(room, on, l...)
		for range 2 {
			v, e := r.Peek()
			if len(l) == 0 && (v != 0 || e != api.ErrEmpty) || len(l) > 0 && (v != l[0] || e != api.OK) {
				t.Errorf("Peek of %v: %v, %v", l, v, e)
			}
			isRing(t, "Peek", r, room-len(l), l...)
		}
	})
}

func TestAt(t *testing.T) {
	each(func(room, on int, l []int) {
		r := turned(room, on, l...)
		for i := -3; i < 12; i++ {
			want, there := 0, i >= 0 && i < len(l)
			if there {
				want = l[i]
			}
			if v, ok := r.At(i); v != want || ok != there {
				t.Errorf("At(%d) of %v: %v, %v", i, l, v, ok)
			}
		}
		isRing(t, "At", r, room-len(l), l...)
	})
	r := ring.New(3, "a", "b")
	for i, want := range []string{"a", "b", "", ""} {
		if v, ok := r.At(i); v != want || ok != (i < 2) {
			t.Errorf("At(%d) of texts: %q, %v", i, v, ok)
		}
	}
}

func TestARingWithoutRoom(t *testing.T) {
	for _, r := range []*ring.Ring[string]{ring.New[string](0), ring.New(0, "a", "b"), ring.New(-5, "a")} {
		isRing(t, "no room", r, 0)
		isPushed(t, "no room", r, "c", api.ErrFull)
		isPopped(t, "no room", r, "", api.ErrEmpty)
		if n := r.Cut(func(string) bool { return true }); n != 0 {
			t.Errorf("Cut of none: %d", n)
		}
		isRing(t, "no room", r, 0)
	}
}
