package deque

import "hibernacle/api"

// Pool is workers' deques, and a global queue.
type Pool struct {
	queue
	deques []Deque
}

// NewPool is empty deques.
func NewPool(workers, room int) *Pool {
	return &Pool{deques: cut(min(max(workers, 1), api.MaxWorkers), room)}
}

// Workers is how many there are.
func (p *Pool) Workers() int {
	return len(p.deques)
}

// Give gives a thread to a worker.
func (p *Pool) Give(w, n int) api.Errno {
	if !p.is(w) {
		return api.ErrRange
	}
	if p.deques[w].Push(n) != api.OK {
		p.Put(n)
	}
	return api.OK
}

// Take is a worker's next thread.
func (p *Pool) Take(w int) (int, api.Errno) {
	if !p.is(w) {
		return 0, api.ErrRange
	}
	if n, e := p.deques[w].Pop(); e == api.OK {
		return n, api.OK
	}
	return p.next()
}

// Steal takes a thread from another worker.
func (p *Pool) Steal(w, from int) (int, api.Errno) {
	if !p.is(w) || !p.is(from) {
		return 0, api.ErrRange
	}
	if w == from {
		return 0, api.ErrArg
	}
	return p.deques[from].Steal()
}

// Pull takes a thread out, wherever it is.
func (p *Pool) Pull(n int) bool {
	for w := range p.deques {
		if p.deques[w].pull(n) {
			return true
		}
	}
	return p.pull(n)
}

// Own is a worker's threads.
func (p *Pool) Own(w int) []int {
	if !p.is(w) {
		return nil
	}
	return p.deques[w].List()
}

// All is all.
func (p *Pool) All() []int {
	var l []int
	for w := range p.deques {
		l = append(l, p.deques[w].has...)
	}
	return append(l, p.Global()...)
}

// Len is how many all have.
func (p *Pool) Len() int {
	n := p.count()
	for w := range p.deques {
		n += p.deques[w].Len()
	}
	return n
}

// is is whether there is such a worker.
func (p *Pool) is(w int) bool {
	return w >= 0 && w < len(p.deques)
}
