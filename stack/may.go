package stack

import "hibernacle/api"

// May tells whether a thread may be.
func May(p api.Program, t api.Thread) bool {
	dead := t.State == api.Dead
	return within(t.State, 0, api.States-1) &&
		dead == (len(t.Frames) == 0) &&
		mayFrames(p, t.Frames) &&
		len(t.Stack) <= api.MaxStack &&
		!(dead && len(t.Stack) > 0) &&
		areKept(t.Stack) &&
		isKept(t.On) &&
		within(t.Code, 0, api.Codes-1) &&
		(dead || t.Code == api.Fine)
}

// mayFrames tells whether there are no more frames than may be, each of which may be.
func mayFrames(p api.Program, l []api.Frame) bool {
	if len(l) > api.MaxFrames {
		return false
	}
	for _, f := range l {
		if !mayFrame(p, f) {
			return false
		}
	}
	return true
}

// mayFrame tells whether a frame is one of a function that there is, and fits it.
func mayFrame(p api.Program, f api.Frame) bool {
	if !within(f.Func, 0, len(p.Funcs)-1) {
		return false
	}
	of := p.Funcs[f.Func]
	return within(f.Pc, 0, len(of.Code)) && len(f.Locals) == of.Locals && areKept(f.Locals)
}

// areKept tells whether all numbers of l are such as are kept.
func areKept(l []int) bool {
	for _, n := range l {
		if !isKept(n) {
			return false
		}
	}
	return true
}

// isKept tells whether n is a number such as is kept.
func isKept(n int) bool {
	return Keep(n) == n
}

// within tells whether n is from least to most.
func within(n, least, most int) bool {
	return least <= n && n <= most
}
