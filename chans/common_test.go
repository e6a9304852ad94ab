package chans_test

import (
	"math"
	"slices"
	"strconv"
	"testing"

	"hibernacle/api"
	"hibernacle/chans"
)

// mark is what lies in all spare room, so that it is seen if anything is put there.
const mark = -77

// far is numbers that lie far out, the first eight below 0.
var far = []int{math.MinInt, math.MinInt + 1, -1 << 61, -1<<32 - 1, -1 << 32, -1 << 31, -2, -1, 1 << 31, 1 << 32, 1<<32 + 1, 1 << 61, math.MaxInt - 1, math.MaxInt}

// sender is one that waits to send, and what.
type sender struct {
	t, v int
}

// channel is a channel as the chapter has it.
type channel struct {
	lies  []int
	sends []sender
	recvs []int
}

// model is a state as the chapter has it. What it answers, and what it becomes, is worked out on lists of its own.
type model []channel

// fresh is a model of so many channels.
func fresh(n int) model {
	return make(model, n)
}

// leave lets a thread wait to receive no more: at how many channels it did.
func (s model) leave(t int) int {
	n := 0
	for ch := range s {
		if i := slices.Index(s[ch].recvs, t); i >= 0 {
			s[ch].recvs = slices.Concat(s[ch].recvs[:i], s[ch].recvs[i+1:])
			n++
		}
	}
	return n
}

func (s model) send(ch, room, t, v int) (int, bool) {
	switch x := &s[ch]; {
	case len(x.recvs) > 0:
		to := x.recvs[0]
		s.leave(to)
		return to, true
	case len(x.lies) < room:
		x.lies = append(x.lies, v)
		return -1, true
	default:
		x.sends = append(x.sends, sender{t, v})
		return -1, false
	}
}

func (s model) recv(ch, t int) (int, int, bool) {
	x := &s[ch]
	if len(x.lies) == 0 && len(x.sends) == 0 {
		x.recvs = append(x.recvs, t)
		return 0, -1, false
	}
	if len(x.lies) == 0 {
		first := x.sends[0]
		x.sends = x.sends[1:]
		return first.v, first.t, true
	}
	v, from := x.lies[0], -1
	x.lies = x.lies[1:]
	if len(x.sends) > 0 {
		from = x.sends[0].t
		x.lies = append(x.lies, x.sends[0].v)
		x.sends = x.sends[1:]
	}
	return v, from, true
}

func (s model) choose(l []int, t int) (int, int, int, bool) {
	for i, ch := range l {
		if s.ready(ch) {
			v, from, ok := s.recv(ch, t)
			return i, v, from, ok
		}
	}
	for _, ch := range l {
		s[ch].recvs = append(s[ch].recvs, t)
	}
	return -1, 0, -1, false
}

func (s model) ready(ch int) bool {
	return len(s[ch].lies)+len(s[ch].sends) > 0
}

// senders is who waits to send.
func (s model) senders(ch int) []int {
	var l []int
	for _, x := range s[ch].sends {
		l = append(l, x.t)
	}
	return l
}

// clone is a model of its own.
func (s model) clone() model {
	m := fresh(len(s))
	for ch, x := range s {
		m[ch] = channel{slices.Clone(x.lies), slices.Clone(x.sends), slices.Clone(x.recvs)}
	}
	return m
}

// rows is the rows of a model, as a state has them.
func (s model) rows() (lies, sends, recvs [][]int) {
	for _, x := range s {
		var pairs []int
		for _, p := range x.sends {
			pairs = append(pairs, p.t, p.v)
		}
		lies, sends, recvs = append(lies, x.lies), append(sends, pairs), append(recvs, x.recvs)
	}
	return lies, sends, recvs
}

// inOneArray is rows that lie in one array, each with the one behind it in its room.
func inOneArray(rows [][]int) [][]int {
	all := append(slices.Concat(rows...), mark, mark, mark, mark)
	at := 0
	cut := make([][]int, len(rows))
	for i, row := range rows {
		cut[i] = all[at : at+len(row)]
		at += len(row)
	}
	return cut
}

// core is the state of a model. Its rows have others in the room behind them, and all else has numbers of its own, so that it is seen if any of it is changed.
func (s model) core() api.Core {
	c := others()
	lies, sends, recvs := s.rows()
	c.Bufs, c.SendQ, c.RecvQ = inOneArray(lies), inOneArray(sends), inOneArray(recvs)
	return c
}

// others is what no call of this layer asks or changes.
func others() api.Core {
	return api.Core{
		Now:     41,
		Threads: []api.Thread{{State: api.Sending, On: 7, Frames: []api.Frame{{Func: 3, Pc: 4, Locals: []int{5}}}, Stack: []int{6}}, {State: api.Dead, Code: 2}},
		Owners:  []int{-1, 3},
		Counts:  []int{0, 100, 4},
		LockQ:   [][]int{nil, {1, 2}},
		WaitQ:   [][]int{{9}, {0, 1}},
		DownQ:   [][]int{{3, 4}, nil, {5}},
	}
}

// sameRows tells whether two lists of rows are one.
func sameRows(a, b [][]int) bool {
	return slices.EqualFunc(a, b, slices.Equal[[]int])
}

// isState asks that of a state the things of this layer are just those of a model.
func isState(t *testing.T, name string, c api.Core, s model) {
	t.Helper()
	lies, sends, recvs := s.rows()
	if !sameRows(c.Bufs, lies) || !sameRows(c.SendQ, sends) || !sameRows(c.RecvQ, recvs) {
		t.Errorf("%s: %v, %v, %v, not %v, %v, %v", name, c.Bufs, c.SendQ, c.RecvQ, lies, sends, recvs)
		return
	}
	for ch := range s {
		if got := chans.Ready(c, ch); got != s.ready(ch) {
			t.Errorf("%s: Ready(%d): %v", name, ch, got)
		}
		if got := chans.Senders(c, ch); !slices.Equal(got, s.senders(ch)) {
			t.Errorf("%s: Senders(%d): %v, not %v", name, ch, got, s.senders(ch))
		}
	}
}

// isElse asks that of a state all that is not of this layer is as a.
func isElse(t *testing.T, name string, c, a api.Core) {
	t.Helper()
	same := func(a, b api.Thread) bool {
		return a.State == b.State && a.On == b.On && a.Code == b.Code && slices.Equal(a.Stack, b.Stack) &&
			slices.EqualFunc(a.Frames, b.Frames, func(a, b api.Frame) bool {
				return a.Func == b.Func && a.Pc == b.Pc && slices.Equal(a.Locals, b.Locals)
			})
	}
	if c.Now != a.Now || !slices.EqualFunc(c.Threads, a.Threads, same) || !slices.Equal(c.Owners, a.Owners) || !slices.Equal(c.Counts, a.Counts) ||
		!sameRows(c.LockQ, a.LockQ) || !sameRows(c.WaitQ, a.WaitQ) || !sameRows(c.DownQ, a.DownQ) {
		t.Errorf("%s: other things than these are changed: %v", name, c)
	}
}

// rooms is each row of a state with the room behind it.
func rooms(c api.Core) [][]int {
	var l [][]int
	for _, row := range slices.Concat(c.Bufs, c.SendQ, c.RecvQ) {
		l = append(l, row[:cap(row)])
	}
	return l
}

// copies is a copy of each list.
func copies(l [][]int) [][]int {
	m := make([][]int, len(l))
	for i, row := range l {
		m[i] = slices.Clone(row)
	}
	return m
}

// does asks that a call, of the state of a model, answers what the model does, brings both to the same, changes nothing else, and puts nothing into the rows that were there, or the room behind them.
func does(t *testing.T, name string, s model, call func(c *api.Core, s model) bool) {
	t.Helper()
	c := s.core()
	behind := rooms(c)
	was := copies(behind)
	if !call(&c, s) {
		t.Errorf("%s: it answers something else", name)
	}
	isState(t, name, c, s)
	isElse(t, name, c, others())
	if !sameRows(behind, was) {
		t.Errorf("%s: rows that were there, with the room behind them: %v, not %v", name, behind, was)
	}
}

// numbers is n numbers from one on, all of which differ.
func numbers(from, n int) []int {
	l := make([]int, n)
	for i := range l {
		l[i] = from + i
	}
	return l
}

// senders is n that wait to send: threads from one on, and numbers that tell of them.
func senders(from, n int) []sender {
	l := make([]sender, n)
	for i := range l {
		l[i] = sender{from + i, 1000 + from + i}
	}
	return l
}

// named is a name of some numbers.
func named(name string, l ...int) string {
	for _, n := range l {
		name += " " + strconv.Itoa(n)
	}
	return name
}

// among is a model of four channels, one of which is x; of the others there is one of each kind.
func among(ch int, x channel) model {
	s := fresh(4)
	s[ch] = x
	s[(ch+1)%4] = channel{lies: []int{90, 91}, sends: []sender{{92, 93}, {94, 95}}}
	s[(ch+2)%4] = channel{recvs: []int{96, 97}}
	return s
}

// someNumbers is what is sent, edges among it.
var someNumbers = []int{0, 1, -1, 7, api.MaxNumber, -api.MaxNumber, math.MaxInt, math.MinInt}

// someThreads is threads, edges among them.
var someThreads = []int{0, 1, 5, 31, 1000, math.MaxInt}
