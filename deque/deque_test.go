package deque_test

import (
	"math"
	"slices"
	"testing"

	"hibernacle/api"
	"hibernacle/deque"
)

// P7.1

func TestNewIsEmpty(t *testing.T) {
	for room := 1; room <= api.MaxDeque; room++ {
		isDeque(t, "New", deque.New(room), room)
	}
}

func TestNewKeepsTheNearerRoom(t *testing.T) {
	for _, c := range []struct{ room, want int }{
		{-1, 1}, {0, 1}, {1, 1}, {2, 2}, {7, 7}, {8, 8}, {9, 8}, {16, 8}, {1024, 8},
	} {
		isRoom(t, c.room, c.want)
	}
	for _, room := range far {
		if room > 0 {
			isRoom(t, room, 8)
		} else {
			isRoom(t, room, 1)
		}
	}
}

// isRoom asks that a deque that is made with a room has place for so many.
func isRoom(t *testing.T, room, want int) {
	t.Helper()
	d := deque.New(room)
	isDeque(t, "New", d, want)
	for i := range want {
		isErr(t, "room", d.Push(i), api.OK)
	}
	isErr(t, "no room", d.Push(9), api.ErrFull)
	isDeque(t, "full", d, 0, numbers(0, want)...)
}

func TestPush(t *testing.T) {
	each(func(room int, l []int) {
		d := filled(room, l...)
		has := slices.Clone(l)
		for n := 50; len(has) < room; n++ {
			isErr(t, "Push", d.Push(n), api.OK)
			has = append(has, n)
			isDeque(t, "Push", d, room-len(has), has...)
		}
		for range 2 {
			isErr(t, "Push without room", d.Push(90), api.ErrFull)
			isDeque(t, "Push without room", d, 0, has...)
		}
	})
}

func TestPushOfAnyNumber(t *testing.T) {
	l := []int{0, -1, math.MinInt, math.MaxInt, 7, 7, 0, -1}
	d := filled(8, l...)
	isDeque(t, "any numbers", d, 0, l...)
	for i := len(l) - 1; i >= 0; i-- {
		isTold(t, "Pop", tell(d.Pop()), l[i], api.OK)
	}
	isTold(t, "Pop of none", tell(d.Pop()), 0, api.ErrEmpty)
}

func TestPop(t *testing.T) {
	each(func(room int, l []int) {
		d := filled(room, l...)
		for i := len(l) - 1; i >= 0; i-- {
			isTold(t, "Pop", tell(d.Pop()), l[i], api.OK)
			isDeque(t, "Pop", d, room-i, l[:i]...)
		}
		for range 2 {
			isTold(t, "Pop of none", tell(d.Pop()), 0, api.ErrEmpty)
			isDeque(t, "Pop of none", d, room)
		}
	})
}

func TestSteal(t *testing.T) {
	each(func(room int, l []int) {
		d := filled(room, l...)
		for i, n := range l {
			isTold(t, "Steal", tell(d.Steal()), n, api.OK)
			isDeque(t, "Steal", d, room-len(l)+i+1, l[i+1:]...)
		}
		for range 2 {
			isTold(t, "Steal of none", tell(d.Steal()), 0, api.ErrEmpty)
			isDeque(t, "Steal of none", d, room)
		}
	})
}

// Behind each row of Pops and Steals there is room again, below those that are left.
func TestBothEnds(t *testing.T) {
	each(func(room int, l []int) {
		for row := range 1 << len(l) {
			d := filled(room, l...)
			left := l
			for i := 0; len(left) > 0; i++ {
				if row>>i&1 == 0 {
					isTold(t, "Pop", tell(d.Pop()), left[len(left)-1], api.OK)
					left = left[:len(left)-1]
				} else {
					isTold(t, "Steal", tell(d.Steal()), left[0], api.OK)
					left = left[1:]
				}
				isDeque(t, "left", d, room-len(left), left...)
				isRefilled(t, d, left, room)
			}
		}
	})
}

// isRefilled asks that d, which has these, takes others till its room is full, and gives them back from the bottom on.
func isRefilled(t *testing.T, d *deque.Deque, has []int, room int) {
	t.Helper()
	more := numbers(70, room-len(has))
	for _, n := range more {
		isErr(t, "Push", d.Push(n), api.OK)
	}
	isErr(t, "Push without room", d.Push(99), api.ErrFull)
	isDeque(t, "full again", d, 0, append(slices.Clone(has), more...)...)
	slices.Reverse(more)
	for _, n := range more {
		isTold(t, "Pop", tell(d.Pop()), n, api.OK)
	}
}

// However many have been there, there is room for as many as at first.
func TestADequeGoesOn(t *testing.T) {
	d := deque.New(3)
	d.Push(-2)
	d.Push(-1)
	for i := range 3000 {
		isErr(t, "Push", d.Push(i), api.OK)
		isErr(t, "Push without room", d.Push(i), api.ErrFull)
		isTold(t, "Steal", tell(d.Steal()), i-2, api.OK)
	}
	isDeque(t, "at the end", d, 1, 2998, 2999)
}

// What List answers is new: neither it nor the deque changes with the other.
func TestListIsNew(t *testing.T) {
	d := filled(4, 10, 11, 12)
	a, b := d.List(), d.List()
	clear(a)
	_ = append(a[:3], 77)
	isDeque(t, "once its list is another", d, 1, 10, 11, 12)
	isList(t, "another list", b, []int{10, 11, 12})
	d.Steal()
	d.Push(13)
	d.Push(14)
	isList(t, "once the deque is another", b, []int{10, 11, 12})
	isDeque(t, "the deque", d, 0, 11, 12, 13, 14)
}

func TestDequesAreTheirOwn(t *testing.T) {
	a, b := deque.New(2), deque.New(2)
	a.Push(1)
	b.Push(2)
	a.Push(3)
	b.Steal()
	isDeque(t, "a", a, 0, 1, 3)
	isDeque(t, "b", b, 2)
}
