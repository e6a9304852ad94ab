package core

import (
	"hibernacle/api"
	"hibernacle/chans"
	"hibernacle/locks"
	"hibernacle/stack"
	"hibernacle/vm"
)

// none stands where there is no thread, and no thing.
const none = -1

// meets is how each request is met, if there is anything to be done for it.
func meets() map[int]func(u *turn, r vm.Request) {
	return map[int]func(u *turn, r vm.Request){
		vm.End:       (*turn).end,
		vm.Print:     (*turn).show,
		vm.Spawn:     (*turn).spawn,
		vm.Sleep:     (*turn).sleep,
		vm.Join:      (*turn).join,
		vm.Lock:      (*turn).lock,
		vm.Unlock:    (*turn).unlock,
		vm.Wait:      (*turn).wait,
		vm.Signal:    (*turn).signal,
		vm.Broadcast: (*turn).broadcast,
		vm.Down:      (*turn).down,
		vm.Up:        (*turn).up,
		vm.Send:      (*turn).send,
		vm.Recv:      (*turn).receive,
		vm.Select:    (*turn).choose,
	}
}

// end wakes who joined the thread, which vm has ended already.
func (u *turn) end(r vm.Request) {
	u.over(u.t, r.V)
}

// show tells what is printed.
func (u *turn) show(r vm.Request) {
	u.see(api.Printed, u.t, r.V)
}

// spawn makes a thread, if there may be one more. It is there, and Ready, even if the one that steps has no room for its number.
func (u *turn) spawn(r vm.Request) {
	n := none
	if len(u.c.Threads) < u.p.Threads {
		n = len(u.c.Threads)
		u.c.Threads = append(u.c.Threads, stack.New(u.p, r.A))
		u.came = append(u.came, n)
	}
	u.see(api.Spawned, u.t, n)
	u.tell(u.t, n)
}

// sleep waits for a tick. Behind the last one there is none to wait for.
func (u *turn) sleep(r vm.Request) {
	if tick := stack.Keep(u.c.Now + r.V); tick > u.c.Now {
		u.pause(api.Sleeping, tick)
	}
}

// join waits for a thread, or is told at once how it ended.
func (u *turn) join(r vm.Request) {
	switch {
	case !u.has(r.V) || r.V == u.t:
		u.over(u.t, api.BadJoin)
	case u.c.Threads[r.V].State == api.Dead:
		u.tell(u.t, u.c.Threads[r.V].Code)
	default:
		u.pause(api.Joining, r.V)
	}
}

// lock takes a mutex, or waits for it, even if it is its own already.
func (u *turn) lock(r vm.Request) {
	if !locks.Lock(&u.c, r.A, u.t) {
		u.pause(api.Locking, r.A)
	}
}

// unlock hands a mutex on; to hand on one that is not its own ends it.
func (u *turn) unlock(r vm.Request) {
	to, e := locks.Unlock(&u.c, r.A, u.t)
	if e != api.OK {
		u.over(u.t, api.Wrong)
		return
	}
	u.wake(to)
}

// wait hands a mutex on, as unlock does, and waits for a condition.
func (u *turn) wait(r vm.Request) {
	to, e := locks.Wait(&u.c, r.A, u.mutex(r.A), u.t)
	if e != api.OK {
		u.over(u.t, api.Wrong)
		return
	}
	u.wake(to)
	u.pause(api.Waiting, r.A)
}

// signal lets the first one that waits for a condition go on; if the mutex is not free, it waits for that.
func (u *turn) signal(r vm.Request) {
	t, its := locks.Signal(&u.c, r.A, u.mutex(r.A))
	if its {
		u.wake(t)
		return
	}
	u.put(t, api.Locking, u.mutex(r.A))
}

// broadcast lets all that wait for a condition go: one of them has the mutex at most, the others wait for it.
func (u *turn) broadcast(r vm.Request) {
	l, owner := locks.Broadcast(&u.c, r.A, u.mutex(r.A))
	for _, t := range l {
		u.put(t, api.Locking, u.mutex(r.A))
	}
	u.wake(owner)
}

// down takes one of a semaphore, or waits for it.
func (u *turn) down(r vm.Request) {
	if !locks.Down(&u.c, r.A, u.t) {
		u.pause(api.Downing, r.A)
	}
}

// up lets the first one that waits for a semaphore through, or counts one more.
func (u *turn) up(r vm.Request) {
	u.wake(locks.Up(&u.c, r.A))
}

// send sends a number, or waits to.
func (u *turn) send(r vm.Request) {
	to, ok := chans.Send(&u.c, r.A, at(u.p.Chans, r.A, 0), u.t, r.V)
	if !ok {
		u.pause(api.Sending, r.A)
		return
	}
	// None received, if the number lies in the channel now.
	if u.has(to) {
		u.hand(to, r.A, r.V)
	}
}

// hand gives a number of a channel to one that waited to receive.
func (u *turn) hand(to, ch, v int) {
	x := u.c.Threads[to]
	u.wake(to)
	if x.State == api.Selecting {
		u.tell(to, v, chans.Index(u.choice(x.On), ch))
		return
	}
	u.tell(to, v)
}

// receive receives a number, or waits to. It is told ahead of the waking of the one that sent: it may be over by that, and who joined it comes first then.
func (u *turn) receive(r vm.Request) {
	v, from, ok := chans.Recv(&u.c, r.A, u.t)
	if !ok {
		u.pause(api.Receiving, r.A)
		return
	}
	u.tell(u.t, v)
	u.wake(from)
}

// choose receives from the first channel of a choice that is ready, or waits at each of them.
func (u *turn) choose(r vm.Request) {
	i, v, from, ok := chans.Select(&u.c, u.choice(r.A), u.t)
	if !ok {
		u.pause(api.Selecting, r.A)
		return
	}
	u.tell(u.t, v, i)
	u.wake(from)
}

// mutex is that of a condition.
func (u *turn) mutex(cond int) int {
	return at(u.p.Conds, cond, none)
}

// choice is the channels of one.
func (u *turn) choice(i int) []int {
	return at(u.p.Choices, i, nil)
}

// at is a thing of a list; or another one, where the list has no such place: so no program makes a call fail.
func at[T any](l []T, i int, other T) T {
	if i < 0 || i >= len(l) {
		return other
	}
	return l[i]
}
