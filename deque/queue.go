package deque

import (
	"hibernacle/api"
	"hibernacle/ring"
)

// piece is the room of each of a queue's rings: one is enough for all threads of a program.
const piece = api.MaxThreads

// queue is threads in a row, with as much room as it takes. A ring's room has an end, so there are rings behind one another: all but the first and the last one are full, and none is empty but an only one, which stays, so that a queue that is often empty makes no ring each time.
type queue struct {
	rings []*ring.Ring[int]
}

// Put puts a thread into the global queue.
func (q *queue) Put(n int) {
	last := len(q.rings) - 1
	if last < 0 || q.rings[last].Push(n) != api.OK {
		q.rings = append(q.rings, ring.New(piece, n))
	}
}

// Global is the global queue's.
func (q *queue) Global() []int {
	var l []int
	for _, r := range q.rings {
		for _, n := range r.All() {
			l = append(l, n)
		}
	}
	return l
}

// next takes the first one.
func (q *queue) next() (int, api.Errno) {
	if len(q.rings) == 0 {
		return 0, api.ErrEmpty
	}
	n, e := q.rings[0].Pop()
	if len(q.rings) > 1 && q.rings[0].Len() == 0 {
		// The slot is emptied, so that the ring is not kept in front of the others.
		q.rings[0] = nil
		q.rings = q.rings[1:]
	}
	return n, e
}

// pull takes out the first one that is n; whether there was one.
func (q *queue) pull(n int) bool {
	found := false
	first := func(v int) bool {
		is := v == n && !found
		found = found || is
		return is
	}
	for i, r := range q.rings {
		if r.Cut(first) > 0 {
			q.fill(i)
			return true
		}
	}
	return false
}

// fill fills the ring at a place up out of the one behind it, that one out of the next one, and so on; if the last one of several is empty then, it is left off.
func (q *queue) fill(i int) {
	last := len(q.rings) - 1
	for ; i < last; i++ {
		ring.Move(q.rings[i+1], q.rings[i])
	}
	if last > 0 && q.rings[last].Len() == 0 {
		q.rings[last] = nil
		q.rings = q.rings[:last]
	}
}

// count is how many there are.
func (q *queue) count() int {
	n := 0
	for _, r := range q.rings {
		n += r.Len()
	}
	return n
}
