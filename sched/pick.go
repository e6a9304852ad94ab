package sched

import "hibernacle/api"

// deeds is what a worker that is picked tries, in this row: the first one that goes is what happens.
func deeds() [3]func(s *Sched, w, n int) (Result, bool) {
	return [...]func(s *Sched, w, n int) (Result, bool){
		(*Sched).step,
		(*Sched).take,
		(*Sched).steal,
	}
}

// step lets the thread that runs at a worker step, if one does.
func (s *Sched) step(w, _ int) (Result, bool) {
	t := s.running[w]
	if t == none {
		return Result{}, false
	}
	yields := s.yields(t)
	seen, woken, e := s.move(t)
	if e != api.OK {
		// The pool is handed out, so there may be what is no thread, or may not step: that runs nowhere.
		s.running[w] = none
		return Result{}, false
	}
	for _, other := range woken {
		s.pool.Give(w, other)
	}
	switch {
	case !s.ready(t):
		s.running[w] = none
	case yields:
		s.Park(w)
	}
	return Result{Kind: Stepped, Thread: t, Seen: seen}, true
}

// take lets the next thread that is the worker's run there.
func (s *Sched) take(w, _ int) (Result, bool) {
	t, e := s.pool.Take(w)
	return s.begin(Took, w, t, e)
}

// steal lets a thread of the worker that n is run at another one. The pool refuses to steal from itself.
func (s *Sched) steal(w, n int) (Result, bool) {
	t, e := s.pool.Steal(w, s.round(distance(n)))
	return s.begin(Stole, w, t, e)
}

// begin lets a thread that was got in some way run at a worker, if there was one.
func (s *Sched) begin(kind, w, t int, e api.Errno) (Result, bool) {
	if e != api.OK {
		return Result{}, false
	}
	s.running[w] = t
	return Result{Kind: kind, Thread: t}, true
}

// round is the worker that a number from 0 on is, as they are gone through round and round.
func (s *Sched) round(n int) int {
	return n % s.Workers()
}

// distance is a number, or of one below 0 its distance from -1, which an int has room for even of the least one.
func distance(n int) int {
	if n < 0 {
		return -1 - n
	}
	return n
}
