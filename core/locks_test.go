package core_test

import (
	"testing"

	"hibernacle/api"
)

// P11.1: requests of mutexes, conditions and semaphores. Of the program's conditions 0, 1, 2 the mutexes are 2, 0, 1.

// waits lets threads wait for a thing, behind the others of its row.
func waits(c *api.Core, state, on int, l ...int) {
	rows := map[int][][]int{api.Locking: c.LockQ, api.Waiting: c.WaitQ, api.Downing: c.DownQ, api.Receiving: c.RecvQ}[state]
	for _, t := range l {
		c.Threads[t].State, c.Threads[t].On = state, on
		rows[on] = append(rows[on], t)
	}
}

// passed is a state in which the thread t stands a place further, its numbers what they are to be, and else what change tells.
func passed(c api.Core, t int, stack []int, change func(c *api.Core)) api.Core {
	return with(c, func(c *api.Core) {
		c.Threads[t].Frames[0].Pc++
		c.Threads[t].Stack = stack
		change(c)
	})
}

// ready lets threads go on.
func ready(c *api.Core, l ...int) {
	for _, t := range l {
		c.Threads[t].State, c.Threads[t].On = api.Ready, 0
	}
}

// threads is a program of six functions, of which the function 1 has the code.
func threads(l ...int) api.Program {
	return program(nil, in(l...), nil, nil, nil, nil)
}

func TestLock(t *testing.T) {
	for m := range 3 {
		p := threads(api.Lock, m)
		c := with(stand(t, p), func(c *api.Core) {
			for i := range c.Owners {
				if i != m {
					c.Owners[i] = 0
				}
			}
		})
		out := goes(t, "a free one", p, c, going{t: 1})
		isCore(t, "a free one", out, passed(c, 1, nil, func(c *api.Core) { c.Owners[m] = 1 }))
		for _, owner := range []int{0, 1, 5} {
			c := with(stand(t, p), func(c *api.Core) {
				c.Owners[m] = owner
				waits(c, api.Locking, m, 4, 2)
			})
			out := goes(t, "one that is taken", p, c, going{t: 1, state: api.Locking, on: m})
			isCore(t, "one that is taken", out, passed(c, 1, nil, func(c *api.Core) { waits(c, api.Locking, m, 1) }))
		}
	}
}

func TestUnlock(t *testing.T) {
	for m := range 3 {
		p := threads(api.Unlock, m)
		c := with(stand(t, p), func(c *api.Core) { c.Owners[m] = 1 })
		out := goes(t, "none waits", p, c, going{t: 1})
		isCore(t, "none waits", out, passed(c, 1, nil, func(c *api.Core) { c.Owners[m] = -1 }))
		c = with(c, func(c *api.Core) { waits(c, api.Locking, m, 4, 0, 2) })
		out = goes(t, "some wait", p, c, going{t: 1, woken: []int{4}})
		isCore(t, "some wait", out, passed(c, 1, nil, func(c *api.Core) {
			c.Owners[m], c.LockQ[m] = 4, []int{0, 2}
			ready(c, 4)
		}))
	}
}

// What is another's, or no one's, is neither handed on nor waited with.
func TestUnlockAndWaitOfAnothers(t *testing.T) {
	for m := range 3 {
		for cond, mutex := range []int{2, 0, 1} {
			for _, op := range []int{api.Unlock, api.Wait} {
				if op == api.Wait && mutex != m {
					continue
				}
				p := threads(op, map[int]int{api.Unlock: m, api.Wait: cond}[op])
				for _, owner := range []int{-1, 0, 2} {
					c := with(stand(t, p), func(c *api.Core) {
						for i := range c.Owners {
							c.Owners[i] = 1
						}
						c.Owners[m] = owner
						joining(c, 1, 5)
						if owner >= 0 {
							waits(c, api.Locking, m, 4)
						}
						full(c, 0, 1)
					})
					out := goes(t, "another's", p, c, going{t: 1, state: api.Dead, seen: events(ended(1, api.Wrong)), woken: []int{5}})
					isCore(t, "another's", out, with(c, func(c *api.Core) {
						c.Threads[1] = api.Thread{State: api.Dead, Code: api.Wrong}
						ready(c, 5)
						c.Threads[5].Stack = []int{api.Wrong}
					}))
				}
			}
		}
	}
}

// A mutex of one that is over stays its, so that who waits for it waits on.
func TestMutexesOfTheDead(t *testing.T) {
	p := program(in(api.Lock, 1), in(api.Lock, 1))
	c := goes(t, "the dead", p, stand(t, p),
		going{t: 0},
		going{t: 1, state: api.Locking, on: 1},
		going{t: 0, state: api.Dead, seen: events(ended(0, api.RunOff))},
	)
	if c.Owners[1] != 0 {
		t.Errorf("the mutex is %d's", c.Owners[1])
	}
}

func TestWait(t *testing.T) {
	for cond, m := range []int{2, 0, 1} {
		p := threads(api.Wait, cond)
		c := with(stand(t, p), func(c *api.Core) {
			c.Owners[m] = 1
			waits(c, api.Waiting, cond, 5)
		})
		out := goes(t, "none waits for the mutex", p, c, going{t: 1, state: api.Waiting, on: cond})
		isCore(t, "none waits for the mutex", out, passed(c, 1, nil, func(c *api.Core) {
			c.Owners[m] = -1
			waits(c, api.Waiting, cond, 1)
		}))
		c = with(c, func(c *api.Core) { waits(c, api.Locking, m, 4, 2) })
		out = goes(t, "some wait for the mutex", p, c, going{t: 1, state: api.Waiting, on: cond, woken: []int{4}})
		isCore(t, "some wait for the mutex", out, passed(c, 1, nil, func(c *api.Core) {
			c.Owners[m], c.LockQ[m] = 4, []int{2}
			ready(c, 4)
			waits(c, api.Waiting, cond, 1)
		}))
	}
}

func TestSignalAndBroadcastToNone(t *testing.T) {
	for cond, m := range []int{2, 0, 1} {
		for _, op := range []int{api.Signal, api.Broadcast} {
			for _, owner := range []int{-1, 0, 1} {
				p := threads(op, cond)
				c := with(stand(t, p), func(c *api.Core) {
					c.Owners[m] = owner
					waits(c, api.Waiting, (cond+1)%3, 4, 5)
				})
				out := goes(t, "none waits", p, c, going{t: 1})
				isCore(t, "none waits", out, passed(c, 1, nil, func(*api.Core) {}))
			}
		}
	}
}

func TestSignal(t *testing.T) {
	for cond, m := range []int{2, 0, 1} {
		p := threads(api.Signal, cond)
		c := with(stand(t, p), func(c *api.Core) { waits(c, api.Waiting, cond, 4, 0, 2) })
		out := goes(t, "the mutex is free", p, c, going{t: 1, woken: []int{4}})
		isCore(t, "the mutex is free", out, passed(c, 1, nil, func(c *api.Core) {
			c.Owners[m], c.WaitQ[cond] = 4, []int{0, 2}
			ready(c, 4)
		}))
		for _, owner := range []int{1, 5} {
			c := with(c, func(c *api.Core) {
				c.Owners[m] = owner
				waits(c, api.Locking, m, 3)
			})
			out := goes(t, "the mutex is taken", p, c, going{t: 1})
			isCore(t, "the mutex is taken", out, passed(c, 1, nil, func(c *api.Core) {
				c.WaitQ[cond] = []int{0, 2}
				waits(c, api.Locking, m, 4)
			}))
		}
	}
}

func TestBroadcast(t *testing.T) {
	for cond, m := range []int{2, 0, 1} {
		p := threads(api.Broadcast, cond)
		c := with(stand(t, p), func(c *api.Core) { waits(c, api.Waiting, cond, 4, 0, 2) })
		out := goes(t, "the mutex is free", p, c, going{t: 1, woken: []int{4}})
		isCore(t, "the mutex is free", out, passed(c, 1, nil, func(c *api.Core) {
			c.Owners[m], c.WaitQ[cond] = 4, nil
			waits(c, api.Locking, m, 0, 2)
			ready(c, 4)
		}))
		for _, owner := range []int{1, 5} {
			c := with(c, func(c *api.Core) {
				c.Owners[m] = owner
				waits(c, api.Locking, m, 3)
			})
			out := goes(t, "the mutex is taken", p, c, going{t: 1})
			isCore(t, "the mutex is taken", out, passed(c, 1, nil, func(c *api.Core) {
				c.WaitQ[cond] = nil
				waits(c, api.Locking, m, 4, 0, 2)
			}))
		}
	}
}

// One that waited for a condition has the mutex when it goes on, and may unlock it.
func TestAConditionsWay(t *testing.T) {
	p := program(in(api.Lock, 2, api.Wait, 0, api.Unlock, 2), in(api.Lock, 2, api.Signal, 0, api.Unlock, 2))
	goes(t, "a condition's way", p, stand(t, p),
		going{t: 0}, going{t: 0, state: api.Waiting, on: 0},
		going{t: 1}, going{t: 1}, going{t: 1, woken: []int{0}},
		going{t: 0}, going{t: 0, state: api.Dead, seen: events(ended(0, api.RunOff))},
	)
}

func TestDown(t *testing.T) {
	for s := range 3 {
		p := threads(api.Down, s)
		for _, count := range []int{1, 2, 100, most} {
			c := with(stand(t, p), func(c *api.Core) { c.Counts[s] = count })
			out := goes(t, "down", p, c, going{t: 1})
			isCore(t, "down", out, passed(c, 1, nil, func(c *api.Core) { c.Counts[s]-- }))
		}
		c := with(stand(t, p), func(c *api.Core) {
			c.Counts[s] = 0
			waits(c, api.Downing, s, 4, 2)
		})
		out := goes(t, "down of 0", p, c, going{t: 1, state: api.Downing, on: s})
		isCore(t, "down of 0", out, passed(c, 1, nil, func(c *api.Core) { waits(c, api.Downing, s, 1) }))
	}
}

func TestUp(t *testing.T) {
	for s := range 3 {
		p := threads(api.Up, s)
		for _, count := range []int{0, 1, 100, 101} {
			c := with(stand(t, p), func(c *api.Core) { c.Counts[s] = count })
			out := goes(t, "up", p, c, going{t: 1})
			isCore(t, "up", out, passed(c, 1, nil, func(c *api.Core) { c.Counts[s]++ }))
		}
		c := with(stand(t, p), func(c *api.Core) {
			c.Counts[s] = 0
			waits(c, api.Downing, s, 4, 2)
		})
		out := goes(t, "up, some wait", p, c, going{t: 1, woken: []int{4}})
		isCore(t, "up, some wait", out, passed(c, 1, nil, func(c *api.Core) {
			c.DownQ[s] = []int{2}
			ready(c, 4)
		}))
	}
}
