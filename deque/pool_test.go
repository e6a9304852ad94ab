package deque_test

import (
	"math"
	"slices"
	"testing"

	"hibernacle/api"
	"hibernacle/deque"
)

// P7.2, P7.3

func TestNewPoolIsEmpty(t *testing.T) {
	for _, workers := range []int{1, 2, 3, 63, 64} {
		for _, room := range []int{1, 2, 8} {
			p := deque.NewPool(workers, room)
			isPool(t, "NewPool", p, nil, make([][]int, workers)...)
			isWide(t, p, workers, room)
		}
	}
}

func TestNewPoolKeepsTheNearerNumbers(t *testing.T) {
	near := func(n, most int) int { return min(max(n, 1), most) }
	for _, n := range append([]int{-1, 0, 1, 8, 9, 64, 65, 66, 128}, far...) {
		isWide(t, deque.NewPool(n, 3), near(n, 64), 3)
		isWide(t, deque.NewPool(3, n), 3, near(n, 8))
		isWide(t, deque.NewPool(n, n), near(n, 64), near(n, 8))
	}
}

// isWide asks that a pool that is empty has so many workers, each with a deque of that room, and fills it.
func isWide(t *testing.T, p *deque.Pool, workers, room int) {
	t.Helper()
	if p.Workers() != workers {
		t.Fatalf("Workers: %d, not %d", p.Workers(), workers)
	}
	own := make([][]int, workers)
	var global []int
	for i := range room + 1 {
		for w := range workers {
			n := 100*w + i
			isErr(t, "Give", p.Give(w, n), api.OK)
			if i < room {
				own[w] = append(own[w], n)
			} else {
				global = append(global, n)
			}
		}
	}
	isPool(t, "filled", p, global, own...)
}

// The example of the chapter.
func TestGiveAndTake(t *testing.T) {
	p := deque.NewPool(1, 1)
	isErr(t, "Give", p.Give(0, 5), api.OK)
	isErr(t, "Give", p.Give(0, 6), api.OK)
	isPool(t, "given", p, []int{6}, []int{5})
	isTold(t, "Take", tell(p.Take(0)), 5, api.OK)
	isPool(t, "taken", p, []int{6}, nil)
	isTold(t, "Take", tell(p.Take(0)), 6, api.OK)
	isTold(t, "Take of none", tell(p.Take(0)), 0, api.ErrEmpty)
	isPool(t, "taken", p, nil, nil)
}

// What one worker has no room for is given to no other one.
func TestGiveWithoutRoom(t *testing.T) {
	p := pool(2, []int{7}, []int{10}, nil, []int{30})
	for i, n := range []int{11, 12, 13, 14} {
		isErr(t, "Give", p.Give(0, n), api.OK)
		isPool(t, "Give", p, append([]int{7}, []int{12, 13, 14}[:i]...), []int{10, 11}, nil, []int{30})
	}
	isErr(t, "Give", p.Give(2, 31), api.OK)
	isErr(t, "Give", p.Give(2, 32), api.OK)
	isErr(t, "Give", p.Give(1, 20), api.OK)
	isPool(t, "Give", p, []int{7, 12, 13, 14, 32}, []int{10, 11}, []int{20}, []int{30, 31})
	isTold(t, "Steal", tell(p.Steal(1, 0)), 10, api.OK)
	isErr(t, "Give", p.Give(0, 15), api.OK)
	isPool(t, "Give, with room again", p, []int{7, 12, 13, 14, 32}, []int{11, 15}, []int{20}, []int{30, 31})
}

func TestTake(t *testing.T) {
	p := pool(3, []int{7, 8, 9}, []int{10, 11, 12}, nil, []int{30})
	isTold(t, "Take", tell(p.Take(0)), 12, api.OK)
	isPool(t, "Take", p, []int{7, 8, 9}, []int{10, 11}, nil, []int{30})
	isTold(t, "Take of the global queue", tell(p.Take(1)), 7, api.OK)
	isPool(t, "Take", p, []int{8, 9}, []int{10, 11}, nil, []int{30})
	isTold(t, "Take", tell(p.Take(2)), 30, api.OK)
	isTold(t, "Take of the global queue", tell(p.Take(2)), 8, api.OK)
	isTold(t, "Take", tell(p.Take(0)), 11, api.OK)
	isTold(t, "Take of the global queue", tell(p.Take(1)), 9, api.OK)
	for _, w := range []int{1, 2, 1} {
		isTold(t, "Take, where another one has one", tell(p.Take(w)), 0, api.ErrEmpty)
		isPool(t, "Take of none", p, nil, []int{10}, nil, nil)
	}
	isTold(t, "Take", tell(p.Take(0)), 10, api.OK)
	isTold(t, "Take of none", tell(p.Take(0)), 0, api.ErrEmpty)
	isPool(t, "Take of all", p, nil, nil, nil, nil)
}

func TestPoolSteal(t *testing.T) {
	p := pool(3, []int{7}, []int{10, 11, 12}, []int{20}, nil)
	isTold(t, "Steal", tell(p.Steal(1, 0)), 10, api.OK)
	isPool(t, "what is stolen is nowhere", p, []int{7}, []int{11, 12}, []int{20}, nil)
	isTold(t, "Steal", tell(p.Steal(2, 0)), 11, api.OK)
	isTold(t, "Steal", tell(p.Steal(2, 1)), 20, api.OK)
	isTold(t, "Steal", tell(p.Steal(1, 0)), 12, api.OK)
	for range 2 {
		isTold(t, "Steal, where the global queue has one", tell(p.Steal(1, 0)), 0, api.ErrEmpty)
		isTold(t, "Steal of one that has none", tell(p.Steal(0, 2)), 0, api.ErrEmpty)
		isPool(t, "Steal of none", p, []int{7}, nil, nil, nil)
	}
}

// No such worker is told ahead of one that would steal from itself, and that ahead of none there.
func TestErrorsOfAPool(t *testing.T) {
	for _, workers := range []int{1, 2, 3, 64} {
		full := make([][]int, workers)
		for w := range full {
			full[w] = []int{10 * w, 10*w + 1}
		}
		for _, p := range []*deque.Pool{pool(2, []int{7, 8}, full...), deque.NewPool(workers, 2)} {
			global := p.Global()
			own := make([][]int, workers)
			for w := range own {
				own[w] = p.Own(w)
				isTold(t, "Steal from itself", tell(p.Steal(w, w)), 0, api.ErrArg)
			}
			for _, w := range outside(workers) {
				isErr(t, "Give", p.Give(w, 5), api.ErrRange)
				isTold(t, "Take", tell(p.Take(w)), 0, api.ErrRange)
				isTold(t, "Steal by none", tell(p.Steal(w, 0)), 0, api.ErrRange)
				isTold(t, "Steal from none", tell(p.Steal(0, w)), 0, api.ErrRange)
				isTold(t, "Steal by none from none", tell(p.Steal(w, w)), 0, api.ErrRange)
				isTold(t, "Steal by none from none", tell(p.Steal(w, -7)), 0, api.ErrRange)
			}
			isPool(t, "errors change nothing", p, global, own...)
		}
	}
}

func TestPut(t *testing.T) {
	p := pool(2, nil, []int{10}, nil)
	var has []int
	for _, n := range []int{5, -5, 5, 0, math.MaxInt, math.MinInt, 10} {
		p.Put(n)
		has = append(has, n)
		isPool(t, "Put", p, has, []int{10}, nil)
	}
	for _, n := range has {
		isTold(t, "Take of the global queue", tell(p.Take(1)), n, api.OK)
	}
	isTold(t, "Take of none", tell(p.Take(1)), 0, api.ErrEmpty)
	isPool(t, "once all are taken", p, nil, []int{10}, nil)
}

// The global queue has as much room as it takes.
func TestPutOfMany(t *testing.T) {
	for _, many := range []int{31, 32, 33, 64, 65, 1023, 1024, 1025, 2049, 100000} {
		p := deque.NewPool(1, 1)
		for i := range many {
			p.Put(i)
		}
		isPool(t, "Put of many", p, numbers(0, many), nil)
		for i := range many {
			isTold(t, "Take", tell(p.Take(0)), i, api.OK)
		}
		isTold(t, "Take of none", tell(p.Take(0)), 0, api.ErrEmpty)
		isPool(t, "Take of many", p, nil, nil)
		p.Put(5)
		isPool(t, "Put then", p, []int{5}, nil)
	}
}

// However many went through it, the global queue keeps its row.
func TestTheGlobalQueueGoesOn(t *testing.T) {
	for _, there := range []int{0, 1, 31, 32, 33, 100} {
		p := deque.NewPool(1, 1)
		for i := range there {
			p.Put(i)
		}
		for i := range 5000 {
			p.Put(there + i)
			isTold(t, "Take", tell(p.Take(0)), i, api.OK)
		}
		isPool(t, "at the end", p, numbers(5000, there), nil)
	}
}

// Of alike ones the first of All is taken out, wherever it is.
func TestPull(t *testing.T) {
	p := pool(4, []int{5, 4, 5, 6}, []int{1, 5, 2, 5}, []int{3}, []int{5})
	isPulled(t, p, 5, []int{5, 4, 5, 6}, []int{1, 2, 5}, []int{3}, []int{5})
	isPulled(t, p, 5, []int{5, 4, 5, 6}, []int{1, 2}, []int{3}, []int{5})
	isPulled(t, p, 5, []int{5, 4, 5, 6}, []int{1, 2}, []int{3}, nil)
	isPulled(t, p, 5, []int{4, 5, 6}, []int{1, 2}, []int{3}, nil)
	isPulled(t, p, 5, []int{4, 6}, []int{1, 2}, []int{3}, nil)
	for _, n := range append([]int{5, 0, -1, 7}, far...) {
		if p.Pull(n) {
			t.Errorf("Pull(%d), which is nowhere", n)
		}
		isPool(t, "Pull of none", p, []int{4, 6}, []int{1, 2}, []int{3}, nil)
	}
	isPulled(t, p, 3, []int{4, 6}, []int{1, 2}, nil, nil)
	isPulled(t, p, 6, []int{4}, []int{1, 2}, nil, nil)
	isPulled(t, p, 1, []int{4}, []int{2}, nil, nil)
	isPulled(t, p, 4, nil, []int{2}, nil, nil)
	isPulled(t, p, 2, nil, nil, nil, nil)
	if p.Pull(2) {
		t.Error("Pull of an empty pool")
	}
}

// isPulled asks that one that is n is taken out, and what there is then.
func isPulled(t *testing.T, p *deque.Pool, n int, global []int, own ...[]int) {
	t.Helper()
	if !p.Pull(n) {
		t.Errorf("Pull(%d): false", n)
	}
	isPool(t, "Pull", p, global, own...)
}

// At each place of a deque, of which others stand on both sides.
func TestPullOfADeque(t *testing.T) {
	each(func(room int, l []int) {
		for i, n := range l {
			p := pool(room, []int{7}, []int{1}, l, []int{2})
			left := slices.Delete(slices.Clone(l), i, i+1)
			isPulled(t, p, n, []int{7}, []int{1}, left, []int{2})
			for len(left) < room {
				isErr(t, "Give", p.Give(1, 50), api.OK)
				left = append(left, 50)
			}
			isErr(t, "Give without room", p.Give(1, 51), api.OK)
			isPool(t, "full again", p, []int{7, 51}, []int{1}, left, []int{2})
		}
	})
}

// At each place of global queues of many lengths, some of whose first ones were taken ahead.
func TestPullOfTheGlobalQueue(t *testing.T) {
	for _, many := range []int{1, 2, 31, 32, 33, 63, 64, 65, 96, 97, 130} {
		for _, taken := range []int{0, 1, 31, 32, 33, 63, 64} {
			for n := taken; n < many; n++ {
				p := pool(1, numbers(0, many), nil)
				for range taken {
					p.Take(0)
				}
				if n > 0 && p.Pull(taken-1) {
					t.Fatalf("Pull(%d), which was taken", taken-1)
				}
				left := slices.Delete(numbers(taken, many-taken), n-taken, n-taken+1)
				isPulled(t, p, n, left, nil)
				left = append(left, numbers(500, 40)...)
				for i := range 40 {
					p.Put(500 + i)
				}
				isPool(t, "Put behind Pull", p, left, nil)
				for _, v := range left {
					isTold(t, "Take", tell(p.Take(0)), v, api.OK)
				}
				isTold(t, "Take of none", tell(p.Take(0)), 0, api.ErrEmpty)
				if t.Failed() {
					t.Fatalf("of %d, %d taken, %d pulled", many, taken, n)
				}
			}
		}
	}
}

// All of a long global queue are taken out one by one, from either end and out of the middle.
func TestPullOfAll(t *testing.T) {
	for _, row := range [][]int{{0, 1, 2}, {2, 1, 0}, {1, 0, 2}, {1, 2, 0}} {
		p := pool(1, numbers(0, 600), nil)
		left := numbers(0, 600)
		for _, third := range row {
			for i := range 200 {
				n := 200*third + i
				if third == 2 {
					n = 200*third + 199 - i
				}
				left = slices.DeleteFunc(left, func(v int) bool { return v == n })
				isPulled(t, p, n, left, nil)
			}
		}
		p.Put(9)
		isPool(t, "Put then", p, []int{9}, nil)
		isTold(t, "Take then", tell(p.Take(0)), 9, api.OK)
		isTold(t, "Take of none", tell(p.Take(0)), 0, api.ErrEmpty)
	}
}

// P7.3: what is answered is new: neither it nor the pool changes with the other.
func TestListsOfAPoolAreNew(t *testing.T) {
	p := pool(3, []int{7, 8}, []int{10, 11}, []int{20})
	tell := []func() []int{p.Global, p.All, func() []int { return p.Own(0) }, func() []int { return p.Own(1) }}
	for _, ask := range tell {
		a, b := ask(), ask()
		was := slices.Clone(b)
		clear(a)
		_ = append(a, 66)
		_ = append(a[:len(a)-1], 67, 68, 69)
		isPool(t, "once its list is another", p, []int{7, 8}, []int{10, 11}, []int{20})
		isList(t, "another list", b, was)
		p.Give(0, 12)
		p.Take(0)
		isList(t, "once the pool was another", b, was)
	}
	l := p.All()
	p.Steal(1, 0)
	p.Pull(7)
	p.Put(70)
	p.Give(1, 21)
	isList(t, "once the pool is another", l, []int{10, 11, 20, 7, 8})
	isPool(t, "then", p, []int{8, 70}, []int{11}, []int{20, 21})
}
