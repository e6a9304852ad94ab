package code

import (
	"slices"

	"hibernacle/api"
)

// A rule tells whether a number may stand where it stands. An instruction that has no A has no rule, so that it is seen which ones have one.
type rule func(a int) bool

// May tells whether a program may be.
func May(p api.Program) bool {
	return within(len(p.Funcs), 1, api.MaxFuncs) &&
		within(p.Mutexes, 0, api.MaxThings) &&
		mayList(p.Conds, below(p.Mutexes)) &&
		mayList(p.Semas, below(api.MaxCount+1)) &&
		mayList(p.Chans, below(api.MaxCap+1)) &&
		mayChoices(p) &&
		within(p.Threads, 1, api.MaxThreads) &&
		mayFuncs(p)
}

// mayFuncs tells whether all functions may be, in their program.
func mayFuncs(p api.Program) bool {
	for _, f := range p.Funcs {
		if !within(f.Locals, 0, api.MaxLocals) || len(f.Code) > api.MaxCode {
			return false
		}
		if !mayCode(f.Code, rules(p, f)) {
			return false
		}
	}
	return true
}

// mayCode tells whether all instructions may be, by these rules.
func mayCode(code []api.Instr, rules [api.Ops]rule) bool {
	for _, i := range code {
		if !isOp(i.Op) {
			return false
		}
		may := rules[i.Op]
		if may == nil {
			may = below(1)
		}
		if !may(i.A) {
			return false
		}
	}
	return true
}

// mayChoices tells whether all choices may be, in their program.
func mayChoices(p api.Program) bool {
	if len(p.Choices) > api.MaxThings {
		return false
	}
	isChan := below(len(p.Chans))
	for _, l := range p.Choices {
		if len(l) == 0 || !mayList(l, isChan) {
			return false
		}
		for i, ch := range l {
			if slices.Contains(l[:i], ch) {
				return false
			}
		}
	}
	return true
}

// mayList tells whether there are no more things than may be, each of which may be.
func mayList(l []int, may rule) bool {
	if len(l) > api.MaxThings {
		return false
	}
	for _, n := range l {
		if !may(n) {
			return false
		}
	}
	return true
}

// rules is, of each instruction that has an A, whether it may have that one in the function f of p.
func rules(p api.Program, f api.Func) [api.Ops]rule {
	local, place, function := below(f.Locals), below(len(f.Code)+1), below(len(p.Funcs))
	mutex, cond, sema := below(p.Mutexes), below(len(p.Conds)), below(len(p.Semas))
	channel, choice := below(len(p.Chans)), below(len(p.Choices))
	return [api.Ops]rule{
		api.Push:      func(a int) bool { return within(a, -api.MaxNumber, api.MaxNumber) },
		api.Get:       local,
		api.Set:       local,
		api.Jump:      place,
		api.Zero:      place,
		api.Call:      function,
		api.Spawn:     function,
		api.Lock:      mutex,
		api.Unlock:    mutex,
		api.Wait:      cond,
		api.Signal:    cond,
		api.Broadcast: cond,
		api.Down:      sema,
		api.Up:        sema,
		api.Send:      channel,
		api.Recv:      channel,
		api.Select:    choice,
	}
}

// hasA tells whether an instruction has an A. Those that have one are the same in all programs, so it is asked of the empty one.
func hasA(op int) bool {
	return isOp(op) && rules(api.Program{}, api.Func{})[op] != nil
}

// isOp tells whether there is such an instruction.
func isOp(op int) bool {
	return within(op, 0, api.Ops-1)
}

// below is the rule of a thing that is told by its place among n.
func below(n int) rule {
	return func(a int) bool { return 0 <= a && a < n }
}

// within tells whether n is from least to most.
func within(n, least, most int) bool {
	return least <= n && n <= most
}
