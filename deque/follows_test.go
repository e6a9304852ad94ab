package deque_test

import (
	"math/rand"
	"slices"
	"testing"

	"hibernacle/api"
	"hibernacle/deque"
)

// P7.4

// model is a pool as the chapter has it, of lists that are copied whenever they change.
type model struct {
	room   int
	own    [][]int
	global []int
}

// without is a list without what stands at a place of it.
func without(l []int, i int) []int {
	return slices.Delete(slices.Clone(l), i, i+1)
}

func (m *model) give(w, n int) {
	if len(m.own[w]) < m.room {
		m.own[w] = append(slices.Clone(m.own[w]), n)
	} else {
		m.put(n)
	}
}

func (m *model) put(n int) {
	m.global = append(slices.Clone(m.global), n)
}

func (m *model) take(w int) (int, api.Errno) {
	if last := len(m.own[w]) - 1; last >= 0 {
		n := m.own[w][last]
		m.own[w] = without(m.own[w], last)
		return n, api.OK
	}
	if len(m.global) == 0 {
		return 0, api.ErrEmpty
	}
	n := m.global[0]
	m.global = without(m.global, 0)
	return n, api.OK
}

func (m *model) steal(w, from int) (int, api.Errno) {
	if w == from {
		return 0, api.ErrArg
	}
	if len(m.own[from]) == 0 {
		return 0, api.ErrEmpty
	}
	n := m.own[from][0]
	m.own[from] = without(m.own[from], 0)
	return n, api.OK
}

func (m *model) pull(n int) bool {
	for w, l := range m.own {
		if i := slices.Index(l, n); i >= 0 {
			m.own[w] = without(l, i)
			return true
		}
	}
	if i := slices.Index(m.global, n); i >= 0 {
		m.global = without(m.global, i)
		return true
	}
	return false
}

// A pool is told the same as its model, with few numbers, so that many are alike.
func TestPoolsAreTheModel(t *testing.T) {
	r := rand.New(rand.NewSource(71))
	for range 150 {
		workers, room := 1+r.Intn(5), 1+r.Intn(8)
		p, m := deque.NewPool(workers, room), &model{room: room, own: make([][]int, workers)}
		gives := 2 + r.Intn(7)
		for range 400 {
			isStep(t, r, p, m, gives)
			isPool(t, "any", p, m.global, m.own...)
			if t.Failed() {
				return
			}
		}
	}
}

// isStep is one call of some kind, and asks that it answers what the model does; the more gives, the fuller the pool.
func isStep(t *testing.T, r *rand.Rand, p *deque.Pool, m *model, gives int) {
	t.Helper()
	w, from, n := r.Intn(len(m.own)), r.Intn(len(m.own)), r.Intn(20)
	switch k := r.Intn(gives + 5); {
	case k < gives-1:
		isErr(t, "Give", p.Give(w, n), api.OK)
		m.give(w, n)
	case k < gives:
		p.Put(n)
		m.put(n)
	case k < gives+2:
		want, e := m.take(w)
		isTold(t, "Take", tell(p.Take(w)), want, e)
	case k < gives+4:
		want, e := m.steal(w, from)
		isTold(t, "Steal", tell(p.Steal(w, from)), want, e)
	default:
		want := m.pull(n)
		if got := p.Pull(n); got != want {
			t.Errorf("Pull(%d): %v, not %v", n, got, want)
		}
	}
}

// What is given comes out once, by whomever it is taken or stolen, and nothing else does.
func TestWhatIsGivenComesOutOnce(t *testing.T) {
	r := rand.New(rand.NewSource(72))
	for range 60 {
		workers := 1 + r.Intn(api.MaxWorkers)
		p := deque.NewPool(workers, 1+r.Intn(api.MaxDeque))
		out := make([]int, 1500)
		for n := range out {
			if r.Intn(4) == 0 {
				p.Put(n)
			} else {
				isErr(t, "Give", p.Give(r.Intn(workers), n), api.OK)
			}
			for range r.Intn(4) {
				anyOut(p, r, out, n)
			}
		}
		for p.Len() > 0 {
			anyOut(p, r, out, len(out)-1)
		}
		for n, times := range out {
			if times != 1 {
				t.Fatalf("%d came out %d times", n, times)
			}
		}
		isPool(t, "at the end", p, nil, make([][]int, workers)...)
	}
}

// anyOut takes, steals or pulls one, and counts what came out; none above last was given.
func anyOut(p *deque.Pool, r *rand.Rand, out []int, last int) {
	w, n := r.Intn(p.Workers()), r.Intn(last+1)
	switch r.Intn(3) {
	case 0:
		if n, e := p.Take(w); e == api.OK {
			out[n]++
		}
	case 1:
		if n, e := p.Steal(w, r.Intn(p.Workers())); e == api.OK {
			out[n]++
		}
	default:
		if p.Pull(n) {
			out[n]++
		}
	}
}

// Two pools do not meet.
func TestPoolsAreTheirOwn(t *testing.T) {
	a, b := deque.NewPool(2, 1), deque.NewPool(2, 1)
	for n := range 5 {
		a.Give(0, n)
		b.Give(1, 10+n)
	}
	a.Pull(2)
	b.Take(1)
	isPool(t, "a", a, []int{1, 3, 4}, []int{0}, nil)
	isPool(t, "b", b, []int{11, 12, 13, 14}, nil, nil)
}
