package vm

import (
	"hibernacle/api"
	"hibernacle/stack"
)

// A deed is what an instruction does.
type deed func(u *turn)

// deeds is what each instruction does. An instruction that ends the thread does nothing behind that: so what is done with a number is handed to pop, and a push stands last.
func deeds() map[int]deed {
	return map[int]deed{
		api.Push: func(u *turn) { u.push(u.a) },
		api.Pop:  func(u *turn) { u.pop(func(int) {}) },
		api.Dup:  func(u *turn) { u.pop(func(v int) { u.push(v, v) }) },
		api.Add:  func(u *turn) { u.popTwo(func(x, y int) { u.push(x + y) }) },
		api.Sub:  func(u *turn) { u.popTwo(func(x, y int) { u.push(x - y) }) },
		api.Get:  func(u *turn) { u.push(stack.Get(u.t, u.a)) },
		api.Set:  func(u *turn) { u.pop(func(v int) { u.t = stack.Set(u.t, u.a, v) }) },
		api.Jump: func(u *turn) { u.t = stack.Jump(u.t, u.a) },
		api.Zero: func(u *turn) {
			u.pop(func(v int) {
				if v == 0 {
					u.t = stack.Jump(u.t, u.a)
				}
			})
		},
		api.Call:      func(u *turn) { u.enter() },
		api.Ret:       func(u *turn) { u.leave() },
		api.Exit:      func(u *turn) { u.end(api.Fine) },
		api.Yield:     ask(Yield),
		api.Spawn:     ask(Spawn),
		api.Lock:      ask(Lock),
		api.Unlock:    ask(Unlock),
		api.Wait:      ask(Wait),
		api.Signal:    ask(Signal),
		api.Broadcast: ask(Broadcast),
		api.Down:      ask(Down),
		api.Up:        ask(Up),
		api.Recv:      ask(Recv),
		api.Select:    ask(Select),
		api.Sleep:     askWithNumber(Sleep),
		api.Join:      askWithNumber(Join),
		api.Print:     askWithNumber(Print),
		api.Send:      askWithNumber(Send),
	}
}

// ask is the deed of an instruction that is met by others. One that has no A has the A 0 in each program that may be, so the request has it, too.
func ask(kind int) deed {
	return func(u *turn) { u.r = Request{Kind: kind, A: u.a} }
}

// askWithNumber is that of one that hands a number with it.
func askWithNumber(kind int) deed {
	return func(u *turn) {
		u.pop(func(v int) { u.r = Request{Kind: kind, A: u.a, V: v} })
	}
}
