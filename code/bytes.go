package code

import (
	"hibernacle/api"
	"hibernacle/wire"
)

// Write is a program's bytes.
func Write(p api.Program) ([]byte, api.Errno) {
	if !May(p) {
		return nil, api.ErrArg
	}
	var w wire.Writer
	putList(&w, p.Funcs, func(f api.Func) { putFunc(&w, f) })
	w.Short(p.Mutexes)
	putList(&w, p.Conds, w.Short)
	putList(&w, p.Semas, w.Short)
	putList(&w, p.Chans, w.Short)
	putList(&w, p.Choices, func(l []int) { putList(&w, l, w.Short) })
	w.Short(p.Threads)
	return w.Bytes(), api.OK
}

// Read is the program of bytes. Whether it may be is asked last, as an error of the reading comes first wherever it stands.
func Read(b []byte) (api.Program, api.Errno) {
	r := wire.NewReader(b)
	var p api.Program
	p.Funcs = readList(r, api.MaxFuncs, func() api.Func { return readFunc(r) })
	p.Mutexes = r.Short()
	p.Conds = readList(r, api.MaxThings, r.Short)
	p.Semas = readList(r, api.MaxThings, r.Short)
	p.Chans = readList(r, api.MaxThings, r.Short)
	p.Choices = readList(r, api.MaxThings, func() []int { return readList(r, api.MaxThings, r.Short) })
	p.Threads = r.Short()
	if e := r.End(); e != api.OK {
		return api.Program{}, e
	}
	if !May(p) {
		return api.Program{}, api.ErrArg
	}
	return p, api.OK
}

// putFunc puts a function.
func putFunc(w *wire.Writer, f api.Func) {
	w.Short(f.Locals)
	putList(w, f.Code, func(i api.Instr) {
		w.Fixed(uint64(i.Op), 1)
		w.Signed(i.A)
	})
}

// readFunc reads a function. Its locals are a number alone: nothing stands behind it of which it tells how many there are.
func readFunc(r *wire.Reader) api.Func {
	locals := r.Short()
	code := readList(r, api.MaxCode, func() api.Instr {
		op := int(r.Fixed(1))
		return api.Instr{Op: op, A: r.Signed()}
	})
	return api.Func{Locals: locals, Code: code}
}

// putList puts how many things there are, then each.
func putList[T any](w *wire.Writer, l []T, put func(T)) {
	w.Short(len(l))
	for _, v := range l {
		put(v)
	}
}

// readList reads how many things follow, most at most, then each.
func readList[T any](r *wire.Reader, most int, read func() T) []T {
	var l []T
	for range r.List(most) {
		l = append(l, read())
	}
	return l
}
