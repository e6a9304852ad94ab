package ring_test

import (
	"math/rand"
	"runtime"
	"slices"
	"testing"
	"weak"

	"hibernacle/api"
	"hibernacle/ring"
)

// P6.4

// model is a ring as the chapter has it, of a list that is copied whenever it changes.
type model struct {
	room int
	has  []int
}

func (m *model) push(v int) api.Errno {
	if len(m.has) == m.room {
		return api.ErrFull
	}
	m.has = append(slices.Clone(m.has), v)
	return api.OK
}

func (m *model) pop() (int, api.Errno) {
	if len(m.has) == 0 {
		return 0, api.ErrEmpty
	}
	v := m.has[0]
	m.has = slices.Clone(m.has[1:])
	return v, api.OK
}

func (m *model) cut(is func(v int) bool) int {
	was := len(m.has)
	m.has = slices.DeleteFunc(slices.Clone(m.has), is)
	return was - len(m.has)
}

// pair is a ring, and the model that it is held against.
type pair struct {
	r *ring.Ring[int]
	m *model
}

// anyPair is a ring of some room with some things, and its model.
func anyPair(r *rand.Rand) pair {
	room := r.Intn(12) - 1
	l := numbers(-r.Intn(9), r.Intn(14))
	m := &model{room: max(room, 0)}
	for _, v := range l {
		m.push(v)
	}
	return pair{ring.New(room, l...), m}
}

// Two rings are told the same as their models, and things move between them.
func TestRingsAreTheModels(t *testing.T) {
	r := rand.New(rand.NewSource(64))
	for range 300 {
		a, b := anyPair(r), anyPair(r)
		for next := range 200 {
			a.isStep(t, r, 1000+next, b)
			isRing(t, "a", a.r, a.m.room-len(a.m.has), a.m.has...)
			isRing(t, "b", b.r, b.m.room-len(b.m.has), b.m.has...)
			if a.r.Len() > a.m.room || a.r.Room() < 0 {
				t.Errorf("%d are in a ring of room %d", a.r.Len(), a.m.room)
			}
			if r.Intn(20) == 0 {
				a, b = b, a
			}
			if t.Failed() {
				return
			}
		}
	}
}

// isStep is one call of some kind, and asks that it answers what the model does.
func (p pair) isStep(t *testing.T, r *rand.Rand, next int, other pair) {
	t.Helper()
	switch r.Intn(10) {
	case 0, 1, 2, 3:
		isPushed(t, "any", p.r, next, p.m.push(next))
	case 4, 5, 6:
		v, e := p.m.pop()
		isPopped(t, "any", p.r, v, e)
	case 7:
		d := 2 + r.Intn(4)
		is := func(v int) bool { return v%d == 0 }
		if n, want := p.r.Cut(is), p.m.cut(is); n != want {
			t.Errorf("Cut: %d, not %d", n, want)
		}
	default:
		want := min(len(p.m.has), other.m.room-len(other.m.has))
		for range want {
			v, _ := p.m.pop()
			other.m.push(v)
		}
		if n := ring.Move(p.r, other.r); n != want {
			t.Errorf("Move: %d, not %d", n, want)
		}
	}
}

// All that goes in comes out, once and in its row, however full the ring is meanwhile.
func TestThingsComeOutAsTheyWentIn(t *testing.T) {
	r := rand.New(rand.NewSource(65))
	for _, room := range []int{1, 2, 3, 7, 8, 100, 1023, 1024} {
		a := ring.New[int](room)
		in, out := 0, 0
		for range 20000 {
			if r.Intn(2) == 0 && a.Push(in) == api.OK {
				in++
			} else if v, e := a.Pop(); e == api.OK {
				if v != out {
					t.Fatalf("room %d: %d comes out, not %d", room, v, out)
				}
				out++
			}
			if a.Len() != in-out || a.Len() > room {
				t.Fatalf("room %d: %d are there, where %d went in and %d came out", room, a.Len(), in, out)
			}
		}
		if out < 5000 {
			t.Errorf("room %d: %d came out, so that little was asked", room, out)
		}
	}
}

// Two rings do not meet.
func TestRingsAreTheirOwn(t *testing.T) {
	l := []int{1, 2, 3}
	a, b := ring.New(4, l...), ring.New(4, l...)
	a.Push(4)
	a.Pop()
	b.Cut(func(v int) bool { return v == 2 })
	isRing(t, "a", a, 1, 2, 3, 4)
	isRing(t, "b", b, 2, 1, 3)
}

// What is taken out is kept by no ring.
func TestNothingIsKeptThatIsTakenOut(t *testing.T) {
	a, b := ring.New[*[64]int](6), ring.New[*[64]int](1)
	var gone []weak.Pointer[[64]int]
	for range 5 {
		v := new([64]int)
		gone = append(gone, weak.Make(v))
		a.Push(v)
	}
	a.Pop()
	ring.Move(a, b)
	b.Pop()
	left := 2
	a.Cut(func(*[64]int) bool { left--; return left >= 0 })
	runtime.GC()
	for i, p := range gone {
		if kept := p.Value() != nil; kept != (i == 4) {
			t.Errorf("%d is kept: %v", i, kept)
		}
	}
	runtime.KeepAlive(a)
	runtime.KeepAlive(b)
}
