package chans_test

import (
	"math"
	"slices"
	"testing"

	"hibernacle/api"
	"hibernacle/chans"
)

// P10.1

func TestNew(t *testing.T) {
	for _, n := range []int{0, 1, 2, 3, 8, 9, 1000} {
		c := chans.New(n)
		isState(t, named("New", n), c, fresh(n))
		isElse(t, named("New", n), c, api.Core{})
		for ch := range n {
			if chans.Ready(c, ch) || len(chans.Senders(c, ch)) > 0 {
				t.Errorf("New(%d): the channel %d: something is there", n, ch)
			}
		}
		if chans.Cancel(&c, 0) {
			t.Errorf("New(%d): one waits", n)
		}
	}
}

func TestStatesAreTheirOwn(t *testing.T) {
	a, b := chans.New(3), chans.New(3)
	chans.Send(&a, 0, 1, 1, 10)
	chans.Send(&a, 0, 1, 2, 20)
	chans.Recv(&a, 1, 3)
	isState(t, "b", b, fresh(3))
	isState(t, "a", a, model{{[]int{10}, []sender{{2, 20}}, nil}, {nil, nil, []int{3}}, {}})
}

func TestTheExample(t *testing.T) {
	c := chans.New(1)
	if v, from, ok := chans.Recv(&c, 0, 5); v != 0 || from != -1 || ok {
		t.Errorf("Recv: %d, %d, %v", v, from, ok)
	}
	if to, ok := chans.Send(&c, 0, 0, 6, 9); to != 5 || !ok {
		t.Errorf("Send: %d, %v", to, ok)
	}
	isState(t, "the example", c, fresh(1))
}

// sends asks Send of a model's state.
func sends(t *testing.T, name string, s model, ch, room, who, v, to int, ok bool) {
	t.Helper()
	does(t, name, s, func(c *api.Core, s model) bool {
		got, gok := chans.Send(c, ch, room, who, v)
		want, wok := s.send(ch, room, who, v)
		return got == to && gok == ok && want == to && wok == ok
	})
}

func TestSendToOneThatWaits(t *testing.T) {
	for ch := range 4 {
		for n := 1; n < 6; n++ {
			for _, first := range []int{0, 7, 31} {
				for room := range 4 {
					s := among(ch, channel{recvs: append([]int{first}, numbers(20, n-1)...)})
					sends(t, named("Send to the first one", ch, n, first, room), s, ch, room, 3, 4, first, true)
				}
			}
		}
	}
}

// One that waits at several channels waits at none of them any more when it has something; others stay in their row.
func TestSendToOneThatWaitsAtSeveral(t *testing.T) {
	for ch := range 4 {
		for n := range 4 {
			for at := range n + 1 {
				s := fresh(4)
				for other := range s {
					s[other].recvs = slices.Insert(numbers(20+10*other, n), at, 5)
				}
				s[ch].recvs = append([]int{5}, numbers(20+10*ch, n)...)
				sends(t, named("Send to one that waits at all", ch, n, at), s, ch, 2, 3, 4, 5, true)
				for other, x := range s {
					if slices.Contains(x.recvs, 5) || len(x.recvs) != n {
						t.Errorf("it waits still, or others do not: %d: %v", other, x.recvs)
					}
				}
			}
		}
	}
}

func TestSendWhereThereIsRoom(t *testing.T) {
	for ch := range 4 {
		for lie := range 9 {
			for _, room := range []int{lie + 1, lie + 2, 100, math.MaxInt} {
				for _, v := range someNumbers {
					s := among(ch, channel{lies: numbers(50, lie)})
					sends(t, named("Send", ch, lie, room, v), s, ch, room, 3, v, -1, true)
					if l := s[ch].lies; l[lie] != v {
						t.Errorf("%d does not lie behind the others: %v", v, l)
					}
				}
			}
		}
	}
}

func TestSendWhereThereIsNoRoom(t *testing.T) {
	for ch := range 4 {
		for lie := range 9 {
			for n := range 5 {
				for i, who := range someThreads {
					s := among(ch, channel{lies: numbers(50, lie), sends: senders(60, n)})
					sends(t, named("Send without room", ch, lie, n, who), s, ch, lie, who, someNumbers[i], -1, false)
				}
			}
		}
		for _, room := range []int{-1, -2, math.MinInt} {
			sends(t, named("Send with less than no room", ch, room), among(ch, channel{}), ch, room, 0, 0, -1, false)
		}
	}
}

// P10.2

// recvs asks Recv of a model's state.
func recvs(t *testing.T, name string, s model, ch, who, v, from int, ok bool) {
	t.Helper()
	does(t, name, s, func(c *api.Core, s model) bool {
		gv, gfrom, gok := chans.Recv(c, ch, who)
		wv, wfrom, wok := s.recv(ch, who)
		return gv == v && gfrom == from && gok == ok && wv == v && wfrom == from && wok == ok
	})
}

func TestRecvOfWhatLies(t *testing.T) {
	for ch := range 4 {
		for _, v := range someNumbers {
			for lie := range 8 {
				l := append([]int{v}, numbers(50, lie)...)
				recvs(t, named("Recv", ch, v, lie), among(ch, channel{lies: slices.Clone(l)}), ch, 3, v, -1, true)
				for n := range 4 {
					for _, first := range []int{0, 9} {
						x := channel{lies: slices.Clone(l), sends: append([]sender{{first, -5}}, senders(60, n)...)}
						s := among(ch, x)
						recvs(t, named("Recv, others wait to send", ch, v, lie, n, first), s, ch, 3, v, first, true)
						if lies := s[ch].lies; len(lies) != len(l) || lies[lie] != -5 {
							t.Errorf("what the first one sends does not lie behind the others: %v", lies)
						}
					}
				}
			}
		}
	}
}

func TestRecvOfOneThatWaits(t *testing.T) {
	for ch := range 4 {
		for n := range 4 {
			for i, v := range someNumbers {
				first := someThreads[i%len(someThreads)]
				s := among(ch, channel{sends: append([]sender{{first, v}}, senders(60, n)...)})
				recvs(t, named("Recv of the first one", ch, n, v, first), s, ch, 3, v, first, true)
				if len(s[ch].lies) > 0 {
					t.Errorf("something lies in a channel without places: %v", s[ch].lies)
				}
			}
		}
	}
}

func TestRecvOfNothing(t *testing.T) {
	for ch := range 4 {
		for n := range 5 {
			for _, who := range someThreads {
				recvs(t, named("Recv of nothing", ch, n, who), among(ch, channel{recvs: numbers(20, n)}), ch, who, 0, -1, false)
			}
		}
	}
}

// P10.3

// selects asks Select of a model's state, and that the list stays as it was.
func selects(t *testing.T, name string, s model, l []int, who, i, v, from int, ok bool) {
	t.Helper()
	does(t, name, s, func(c *api.Core, s model) bool {
		given := append(slices.Clone(l), mark)
		gi, gv, gfrom, gok := chans.Select(c, given[:len(l)], who)
		wi, wv, wfrom, wok := s.choose(l, who)
		return gi == i && gv == v && gfrom == from && gok == ok && wi == i && wv == v && wfrom == from && wok == ok && slices.Equal(given, append(slices.Clone(l), mark))
	})
}

// lists is channels in many rows: one at least, each once.
func lists(n int) [][]int {
	var l [][]int
	var grow func(row []int)
	grow = func(row []int) {
		for ch := range n {
			if !slices.Contains(row, ch) {
				next := append(slices.Clone(row), ch)
				l = append(l, next)
				grow(next)
			}
		}
	}
	grow(nil)
	return l
}

// kinds is each kind of a channel that is ready, with what Recv of it tells.
var kinds = []struct {
	x       channel
	v, from int
}{
	{channel{lies: []int{50}}, 50, -1},
	{channel{lies: []int{0, 52}}, 0, -1},
	{channel{sends: []sender{{0, 53}}}, 53, 0},
	{channel{sends: []sender{{6, -1}, {7, 55}}}, -1, 6},
	{channel{lies: []int{56, 57}, sends: []sender{{8, 58}, {9, 59}}}, 56, 8},
}

// Of a list the first channel that is ready is received from, whichever else is.
func TestSelectOfWhatIsReady(t *testing.T) {
	for _, l := range lists(4) {
		for mask := 1; mask < 1<<len(l); mask++ {
			for k, kind := range kinds {
				s := fresh(4)
				first := -1
				for i, ch := range l {
					if mask>>i&1 == 0 {
						s[ch] = channel{recvs: numbers(20+10*i, i%3)}
						continue
					}
					s[ch] = channel{lies: []int{80 + i}}
					if first < 0 {
						first, s[ch] = i, kind.x
					}
				}
				s = s.clone()
				selects(t, named("Select, the kind, the channels", append([]int{k, mask}, l...)...), s, l, 3, first, kind.v, kind.from, true)
			}
		}
	}
}

// Where none of a list is ready, the thread waits at each of it, and at no other.
func TestSelectOfNothing(t *testing.T) {
	for _, l := range lists(4) {
		for n := range 3 {
			for _, who := range []int{0, 31} {
				s := fresh(4)
				for ch := range s {
					s[ch] = kinds[ch%len(kinds)].x
					if slices.Contains(l, ch) {
						s[ch] = channel{recvs: numbers(200+10*ch, n*ch)}
					}
				}
				s = s.clone()
				selects(t, named("Select of nothing", append([]int{n, who}, l...)...), s, l, who, -1, 0, -1, false)
				for ch, x := range s {
					if at := slices.Index(x.recvs, who); at != len(x.recvs)-1 && slices.Contains(l, ch) || at >= 0 && !slices.Contains(l, ch) {
						t.Errorf("Select of %v: who waits at %d: %v", l, ch, x.recvs)
					}
				}
			}
		}
	}
}

// A list is not kept: who waits stays where it waits, whatever becomes of the list.
func TestSelectKeepsNoList(t *testing.T) {
	c := chans.New(3)
	l := []int{2, 0}
	chans.Select(&c, l, 4)
	clear(l)
	isState(t, "Select", c, model{{recvs: []int{4}}, {}, {recvs: []int{4}}})
	chans.Cancel(&c, 4)
	isState(t, "Cancel", c, fresh(3))
}

// isReady asks Ready of a model's state.
func isReady(t *testing.T, name string, s model, ch int, want bool) {
	t.Helper()
	does(t, name, s, func(c *api.Core, s model) bool {
		return chans.Ready(*c, ch) == want && s.ready(ch) == want
	})
}

func TestReady(t *testing.T) {
	for ch := range 4 {
		for k, kind := range kinds {
			isReady(t, named("Ready", ch, k), among(ch, kind.x), ch, true)
		}
		isReady(t, named("Ready, nothing is there", ch), among(ch, channel{}), ch, false)
		for n := 1; n < 4; n++ {
			isReady(t, named("Ready, others wait to receive", ch, n), among(ch, channel{recvs: numbers(20, n)}), ch, false)
		}
	}
}

// cancels asks Cancel of a model's state, and again of what it became.
func cancels(t *testing.T, name string, s model, who int, want bool) {
	t.Helper()
	does(t, name, s, func(c *api.Core, s model) bool {
		return chans.Cancel(c, who) == want && s.leave(who) > 0 == want
	})
	does(t, name+", again", s, func(c *api.Core, s model) bool {
		return !chans.Cancel(c, who)
	})
}

// Who waits at some channels, and anywhere in their rows, waits at none of them any more; who waits at none stays where it is.
func TestCancel(t *testing.T) {
	for _, who := range []int{0, 5, 31} {
		for mask := range 1 << 4 {
			for n := range 3 {
				for at := range n + 1 {
					s := fresh(4)
					for ch := range s {
						s[ch].recvs = numbers(40+10*ch, n)
						if mask>>ch&1 == 1 {
							s[ch].recvs = slices.Insert(s[ch].recvs, at, who)
						}
					}
					cancels(t, named("Cancel", who, mask, n, at), s, who, mask > 0)
				}
			}
		}
	}
	sending := model{{sends: []sender{{5, 1}, {6, 5}}}, {lies: []int{5}}, {recvs: []int{6}}}
	cancels(t, "Cancel of one that sends, and of what it is sent", sending, 5, false)
	cancels(t, "Cancel of one that sends and receives", sending, 6, true)
	for _, who := range far {
		cancels(t, named("Cancel of none", who), among(0, channel{}), who, false)
	}
}

func TestSenders(t *testing.T) {
	for ch := range 4 {
		for n := range 6 {
			does(t, named("Senders", ch, n), among(ch, channel{lies: []int{1, 2}, sends: senders(60, n)}), func(c *api.Core, _ model) bool {
				l := chans.Senders(*c, ch)
				same := slices.Equal(l, numbers(60, n))
				clear(l[:cap(l)])
				return same
			})
		}
		row := channel{sends: []sender{{3, 0}, {0, 3}, {31, 31}, {3, -1}}}
		does(t, named("Senders, in their row", ch), among(ch, row), func(c *api.Core, _ model) bool {
			return slices.Equal(chans.Senders(*c, ch), []int{3, 0, 31, 3})
		})
	}
}

func TestIndex(t *testing.T) {
	for _, l := range lists(4) {
		given := append(slices.Clone(l), 0, 1, 2, 3)
		for i, ch := range l {
			if got := chans.Index(given[:len(l)], ch); got != i {
				t.Errorf("Index of %d in %v: %d", ch, l, got)
			}
		}
		for _, ch := range append([]int{0, 1, 2, 3, 4}, far...) {
			if got := chans.Index(given[:len(l)], ch); !slices.Contains(l, ch) && got != -1 {
				t.Errorf("Index of %d, that is not in %v: %d", ch, l, got)
			}
		}
	}
	if chans.Index(nil, 0) != -1 || chans.Index([]int{}, -1) != -1 {
		t.Error("Index in nothing")
	}
	if chans.Index(far, math.MaxInt) != len(far)-1 || chans.Index([]int{4, 2, 4}, 4) != 0 {
		t.Error("Index of the last one, or of the first one of two")
	}
}

// Nil and empty rows are one.
func TestEmptyRows(t *testing.T) {
	empty := func() api.Core {
		return api.Core{Bufs: [][]int{{}}, SendQ: [][]int{{}}, RecvQ: [][]int{{}}}
	}
	c := empty()
	if chans.Ready(c, 0) || len(chans.Senders(c, 0)) > 0 || chans.Cancel(&c, 0) {
		t.Error("something is there")
	}
	if v, from, ok := chans.Recv(&c, 0, 1); v != 0 || from != -1 || ok {
		t.Errorf("Recv: %d, %d, %v", v, from, ok)
	}
	c = empty()
	if to, ok := chans.Send(&c, 0, 1, 1, 2); to != -1 || !ok {
		t.Errorf("Send: %d, %v", to, ok)
	}
	c = empty()
	if i, v, from, ok := chans.Select(&c, []int{0}, 1); i != -1 || v != 0 || from != -1 || ok {
		t.Errorf("Select: %d, %d, %d, %v", i, v, from, ok)
	}
	isState(t, "empty rows", c, model{{recvs: []int{1}}})
}

// What the chapter does not allow ends, tells of no thread, and changes nothing.
func TestWhatIsNotAllowed(t *testing.T) {
	s := model{{[]int{1}, []sender{{2, 3}}, nil}, {nil, nil, []int{4}}}
	c := s.core()
	for _, ch := range append([]int{2, 3}, far...) {
		changesNothing(t, named("the channel", ch), &c, 5, ch)
		changesNothing(t, named("nil, the channel", ch), nil, 5, ch)
		changesNothing(t, named("no state, the channel", ch), &api.Core{}, 5, ch)
	}
	for _, n := range far {
		isState(t, named("New", n), chans.New(n), fresh(0))
	}
	for _, who := range far[:8] {
		for ch := range 2 {
			changesNothing(t, named("the thread", who), &c, who, ch)
		}
	}
	for _, l := range [][]int{nil, {}, {0, 0}, {1, 1}, {1, 0, 1}, {0, 2}, {2, 0}, {-1, 0}, {1, math.MinInt}, {1, math.MaxInt}} {
		choosesNothing(t, named("the list", l...), &c, l, 5)
	}
	isState(t, "what is not allowed", c, s)
	isElse(t, "what is not allowed", c, others())
	for i, part := range []api.Core{{Bufs: [][]int{{1}}}, {SendQ: [][]int{{1, 2}}}, {RecvQ: [][]int{{1}}}} {
		sendsNothing(t, named("a part of a state", i), &part, 5, 0)
	}
	odd := api.Core{Bufs: [][]int{nil}, SendQ: [][]int{{7}}, RecvQ: [][]int{nil}}
	if len(chans.Senders(odd, 0)) > 0 || chans.Ready(odd, 0) {
		t.Error("one that waits to send nothing")
	}
	if v, from, ok := chans.Recv(&odd, 0, 1); v != 0 || from != -1 || ok {
		t.Errorf("Recv of one that waits to send nothing: %d, %d, %v", v, from, ok)
	}
}

// changesNothing asks each call of a channel, or of a thread, that there is not.
func changesNothing(t *testing.T, name string, c *api.Core, who, ch int) {
	t.Helper()
	sendsNothing(t, name, c, who, ch)
	choosesNothing(t, name, c, []int{ch}, who)
	if chans.Cancel(c, who) {
		t.Errorf("%s: Cancel", name)
	}
	if c != nil && who >= 0 && (chans.Ready(*c, ch) || len(chans.Senders(*c, ch)) > 0) {
		t.Errorf("%s: something is there", name)
	}
}

// sendsNothing asks Send and Recv of what there is not.
func sendsNothing(t *testing.T, name string, c *api.Core, who, ch int) {
	t.Helper()
	for _, room := range []int{math.MinInt, 0, 1, 9, math.MaxInt} {
		if to, ok := chans.Send(c, ch, room, who, 6); to != -1 || ok {
			t.Errorf("%s: Send: %d, %v", name, to, ok)
		}
	}
	if v, from, ok := chans.Recv(c, ch, who); v != 0 || from != -1 || ok {
		t.Errorf("%s: Recv: %d, %d, %v", name, v, from, ok)
	}
}

// choosesNothing asks Select of what there is not.
func choosesNothing(t *testing.T, name string, c *api.Core, l []int, who int) {
	t.Helper()
	if i, v, from, ok := chans.Select(c, l, who); i != -1 || v != 0 || from != -1 || ok {
		t.Errorf("%s: Select: %d, %d, %d, %v", name, i, v, from, ok)
	}
}
