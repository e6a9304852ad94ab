package chans_test

import (
	"math/rand"
	"slices"
	"testing"

	"hibernacle/api"
	"hibernacle/chans"
)

// P10.4

// crowd is threads that call, as long as they wait for nothing: a state, its model, of each channel how many places it has, what was sent to it and what was received from it; and of each thread the channels at which it waits (none: for nothing).
type crowd struct {
	c         api.Core
	s         model
	rooms     []int
	sent, got [][]int
	waits     [][]int
	next      int
}

// gather is a crowd of some threads, and of some channels.
func gather(r *rand.Rand) *crowd {
	n := 1 + r.Intn(5)
	w := &crowd{
		c:     chans.New(n),
		s:     fresh(n),
		rooms: make([]int, n),
		sent:  make([][]int, n),
		got:   make([][]int, n),
		waits: make([][]int, 1+r.Intn(12)),
	}
	for ch := range w.rooms {
		w.rooms[ch] = r.Intn(4)
	}
	return w
}

// free is a thread that waits for nothing, and whether there is any.
func (w *crowd) free(r *rand.Rand) (int, bool) {
	for _, t := range r.Perm(len(w.waits)) {
		if len(w.waits[t]) == 0 {
			return t, true
		}
	}
	return 0, false
}

// goes lets one go on that waited at a channel; -1 is none.
func (w *crowd) goes(t *testing.T, who, ch int) {
	t.Helper()
	if who == -1 {
		return
	}
	if !slices.Contains(w.waits[who], ch) {
		t.Errorf("%d goes on, and did not wait at %d: %v", who, ch, w.waits[who])
	}
	w.waits[who] = nil
}

// send lets a thread send a number that was never sent.
func (w *crowd) send(t *testing.T, who, ch int) bool {
	t.Helper()
	w.next++
	w.sent[ch] = append(w.sent[ch], w.next)
	to, ok := chans.Send(&w.c, ch, w.rooms[ch], who, w.next)
	wto, wok := w.s.send(ch, w.rooms[ch], who, w.next)
	if wto >= 0 {
		w.got[ch] = append(w.got[ch], w.next)
		w.goes(t, wto, ch)
	}
	if !wok {
		w.waits[who] = []int{ch}
	}
	return to == wto && ok == wok
}

// took tells that a thread received a number, or waits at some channels.
func (w *crowd) took(t *testing.T, who, ch, v, from int, ok bool, l []int) {
	t.Helper()
	if !ok {
		w.waits[who] = l
		return
	}
	w.got[ch] = append(w.got[ch], v)
	w.goes(t, from, ch)
}

// step is one call of some kind of a thread that waits for nothing, and asks that it answers what the model does.
func (w *crowd) step(t *testing.T, r *rand.Rand, who int) {
	t.Helper()
	ch := r.Intn(len(w.s))
	same := true
	switch r.Intn(7) {
	case 0, 1, 2:
		same = w.send(t, who, ch)
	case 3, 4:
		v, from, ok := chans.Recv(&w.c, ch, who)
		wv, wfrom, wok := w.s.recv(ch, who)
		same = v == wv && from == wfrom && ok == wok
		w.took(t, who, ch, wv, wfrom, wok, []int{ch})
	case 5:
		l := r.Perm(len(w.s))[:1+r.Intn(len(w.s))]
		i, v, from, ok := chans.Select(&w.c, l, who)
		wi, wv, wfrom, wok := w.s.choose(l, who)
		same = i == wi && v == wv && from == wfrom && ok == wok
		w.took(t, who, l[max(wi, 0)], wv, wfrom, wok, l)
	case 6:
		who = r.Intn(len(w.waits))
		did := w.s.leave(who)
		same = chans.Cancel(&w.c, who) == (did > 0)
		if did > 0 {
			w.waits[who] = nil
		}
	}
	if !same {
		t.Errorf("a call of %d at %d answers something else than the model", who, ch)
	}
}

// fits asks what follows of a state that calls brought it to.
func (w *crowd) fits(t *testing.T) {
	t.Helper()
	for ch, room := range w.rooms {
		lie, send, recv := len(w.c.Bufs[ch]), len(w.c.SendQ[ch]), len(w.c.RecvQ[ch])
		if recv > 0 && (lie > 0 || send > 0) {
			t.Errorf("%d: %d wait to receive where %d lie, and %d wait to send", ch, recv, lie, send/2)
		}
		if send > 0 && lie != room || lie > room {
			t.Errorf("%d: %d wait to send where %d lie, of %d", ch, send/2, lie, room)
		}
		if got, sent := w.got[ch], w.sent[ch]; len(got) > len(sent) || !slices.Equal(got, sent[:len(got)]) {
			t.Errorf("%d: received is %v; sent was %v", ch, got, sent)
		}
		if w.left(ch) != len(w.sent[ch])-len(w.got[ch]) {
			t.Errorf("%d: %v were sent, %v received, and these are left: %v, %v", ch, w.sent[ch], w.got[ch], w.c.Bufs[ch], w.c.SendQ[ch])
		}
	}
}

// left is how many were sent to a channel, and not received.
func (w *crowd) left(ch int) int {
	return len(w.c.Bufs[ch]) + len(w.c.SendQ[ch])/2
}

// isAsItWaits asks that each stands in just the rows in which it waits.
func (w *crowd) isAsItWaits(t *testing.T) {
	t.Helper()
	for who, l := range w.waits {
		for ch := range w.s {
			times := 0
			for _, other := range slices.Concat(w.c.RecvQ[ch], chans.Senders(w.c, ch)) {
				if other == who {
					times++
				}
			}
			if want := slices.Contains(l, ch); times > 1 || times == 1 != want {
				t.Errorf("%d waits at %v, and stands %d times at %d", who, l, times, ch)
			}
		}
	}
}

// drain receives all that was sent and not received.
func (w *crowd) drain(t *testing.T) {
	t.Helper()
	for ch := range w.s {
		for chans.Ready(w.c, ch) {
			v, from, ok := chans.Recv(&w.c, ch, 1000)
			w.took(t, 1000, ch, v, from, ok, nil)
		}
		if !slices.Equal(w.got[ch], w.sent[ch]) {
			t.Errorf("%d: received is %v; sent was %v", ch, w.got[ch], w.sent[ch])
		}
	}
}

// Threads that call what they may are told the same as the model, and come to nothing but what follows; all that was sent is received once, in its row.
func TestCrowdsAreTheModel(t *testing.T) {
	r := rand.New(rand.NewSource(101))
	stuck := 0
	for range 400 {
		w := gather(r)
		for range 300 {
			who, ok := w.free(r)
			if !ok {
				stuck++
				break
			}
			w.step(t, r, who)
			isState(t, "a crowd", w.c, w.s)
			isElse(t, "a crowd", w.c, api.Core{})
			w.fits(t)
			w.isAsItWaits(t)
			if t.Failed() {
				return
			}
		}
		w.drain(t)
	}
	if stuck == 0 || stuck == 400 {
		t.Errorf("of 400 crowds %d came to where all wait", stuck)
	}
}

// What is sent comes out in the row in which it was sent, whether it lay in the channel, or was waited with.
func TestTheRowOfAChannel(t *testing.T) {
	const many = 20
	for room := range 9 {
		c := chans.New(2)
		for who := range many {
			if to, ok := chans.Send(&c, 1, room, who, 100+who); to != -1 || ok != (who < room) {
				t.Errorf("the room %d: Send of %d: %d, %v", room, who, to, ok)
			}
		}
		if l := chans.Senders(c, 1); !slices.Equal(l, numbers(room, many-room)) {
			t.Errorf("the room %d: Senders: %v", room, l)
		}
		for i := range many {
			from := room + i
			if from >= many {
				from = -1
			}
			if v, who, ok := chans.Recv(&c, 1, 50); v != 100+i || who != from || !ok {
				t.Errorf("the room %d: Recv: %d, %d, %v; not %d, %d", room, v, who, ok, 100+i, from)
			}
		}
		if v, who, ok := chans.Recv(&c, 1, 50); v != 0 || who != -1 || ok {
			t.Errorf("the room %d: Recv of nothing: %d, %d, %v", room, v, who, ok)
		}
		isState(t, named("the room", room), c, model{{}, {recvs: []int{50}}})
	}
}

// Those that wait to receive are sent to in the row in which they came; one that waits at several is sent to once.
func TestTheRowOfReceivers(t *testing.T) {
	c := chans.New(3)
	chans.Recv(&c, 1, 4)
	chans.Select(&c, []int{2, 1}, 5)
	chans.Recv(&c, 1, 6)
	chans.Select(&c, []int{0, 1, 2}, 7)
	chans.Recv(&c, 2, 8)
	for _, x := range [][2]int{{1, 4}, {2, 5}, {1, 6}, {2, 7}, {1, -1}, {0, -1}, {2, 8}} {
		if to, ok := chans.Send(&c, x[0], 1, 9, x[0]); to != x[1] || !ok {
			t.Errorf("Send to %d: %d, %v, not %d", x[0], to, ok, x[1])
		}
	}
	isState(t, "all were sent to", c, model{{lies: []int{0}}, {lies: []int{1}}, {}})
}

// A row that was handed out of a state stays as it was, whatever becomes of the state.
func TestRowsStay(t *testing.T) {
	c := chans.New(3)
	for i := range 6 {
		chans.Send(&c, 0, 2, i, 10+i)
		chans.Select(&c, []int{1, 2}, 20+i)
	}
	rows := slices.Concat(c.Bufs, c.SendQ, c.RecvQ)
	was := copies(rows)
	for i := range 4 {
		chans.Recv(&c, 0, 30)
		chans.Send(&c, 0, 2, 31, 32)
		chans.Cancel(&c, 22+i)
		chans.Send(&c, 1, 0, 33, 34)
		chans.Recv(&c, 2, 35+i)
	}
	if !sameRows(rows, was) {
		t.Errorf("%v, not %v", rows, was)
	}
}
