package core_test

import (
	"slices"
	"testing"

	"hibernacle/api"
)

// P11.1: requests of channels. The program's channels 0, 1, 2 have as many places; its choices 0, 1, 2 are of the channels 2, 0; of 1; of 0, 1, 2.

// sends lets a thread wait to send, behind the others.
func sends(c *api.Core, ch, t, v int) {
	c.Threads[t].State, c.Threads[t].On = api.Sending, ch
	c.SendQ[ch] = append(c.SendQ[ch], t, v)
}

// chooses lets a thread wait at a choice's channels, behind the others.
func chooses(c *api.Core, choice, t int) {
	c.Threads[t].State, c.Threads[t].On = api.Selecting, choice
	for _, ch := range [][]int{{2, 0}, {1}, {0, 1, 2}}[choice] {
		c.RecvQ[ch] = append(c.RecvQ[ch], t)
	}
}

// without is a row without a number.
func without(row []int, n int) []int {
	return slices.DeleteFunc(slices.Clone(row), func(m int) bool { return m == n })
}

// given is a state in which a thread has what was sent, and waits nowhere any more.
func given(c *api.Core, t int, l ...int) {
	ready(c, t)
	c.Threads[t].Stack = append(c.Threads[t].Stack, l...)
	for ch, row := range c.RecvQ {
		c.RecvQ[ch] = without(row, t)
	}
}

func TestSend(t *testing.T) {
	for ch := range 3 {
		p := threads(api.Send, ch)
		for lie := range ch + 1 {
			for _, v := range []int{0, 5, -1, most, -most} {
				c := with(stand(t, p), func(c *api.Core) { c.Bufs[ch], c.Threads[1].Stack = numbers(lie), []int{8, v} })
				if lie < ch {
					out := goes(t, "a place", p, c, going{t: 1, stack: []int{8}})
					isCore(t, "a place", out, passed(c, 1, []int{8}, func(c *api.Core) { c.Bufs[ch] = append(numbers(lie), v) }))
					continue
				}
				c = with(c, func(c *api.Core) { sends(c, ch, 4, 44) })
				out := goes(t, "no place", p, c, going{t: 1, state: api.Sending, on: ch, stack: []int{8}})
				isCore(t, "no place", out, passed(c, 1, []int{8}, func(c *api.Core) { sends(c, ch, 1, v) }))
			}
		}
	}
}

func TestSendToOneThatReceives(t *testing.T) {
	for ch := range 3 {
		p := threads(api.Send, ch)
		for _, room := range []int{16, 1} {
			c := with(stand(t, p), func(c *api.Core) {
				c.Threads[1].Stack = []int{8, 9}
				waits(c, api.Receiving, ch, 4, 0, 2)
				full(c, room, 4)
			})
			out := goes(t, "to one that receives", p, c, going{t: 1, stack: []int{8}, woken: []int{4}})
			isCore(t, "to one that receives", out, passed(c, 1, []int{8}, func(c *api.Core) { given(c, 4, 9) }))
		}
	}
}

// Who waits at a choice is told the number, and the place of the channel in that; it waits at none of the choice's channels any more.
func TestSendToOneThatSelects(t *testing.T) {
	for choice, l := range [][]int{{2, 0}, {1}, {0, 1, 2}} {
		for place, ch := range l {
			p := threads(api.Send, ch)
			for _, room := range []int{16, 2} {
				c := with(stand(t, p), func(c *api.Core) {
					c.Threads[1].Stack = []int{8, 9}
					waits(c, api.Receiving, (ch+1)%3, 5)
					chooses(c, choice, 4)
					chooses(c, 2, 0)
					waits(c, api.Receiving, ch, 2)
					full(c, room, 4)
				})
				out := goes(t, "to one that selects", p, c, going{t: 1, stack: []int{8}, woken: []int{4}})
				isCore(t, "to one that selects", out, passed(c, 1, []int{8}, func(c *api.Core) { given(c, 4, 9, place) }))
			}
		}
	}
}

// Who has no room for what is sent to it is over, and has been woken by nothing.
func TestSendToOneWithoutRoom(t *testing.T) {
	for _, state := range []int{api.Receiving, api.Selecting} {
		for ch := range 3 {
			p := threads(api.Send, ch)
			c := with(stand(t, p), func(c *api.Core) {
				c.Threads[1].Stack = []int{8, 9}
				if state == api.Receiving {
					waits(c, state, ch, 4)
					full(c, 0, 4)
				} else {
					chooses(c, 2, 4)
					full(c, ch%2, 4)
				}
				waits(c, api.Receiving, ch, 2)
				joining(c, 4, 5, 0)
			})
			out := goes(t, "no room", p, c, going{t: 1, stack: []int{8}, seen: events(ended(4, api.Over)), woken: []int{0, 5}})
			isCore(t, "no room", out, passed(c, 1, []int{8}, func(c *api.Core) {
				given(c, 4)
				c.Threads[4] = api.Thread{State: api.Dead, Code: api.Over}
				given(c, 0, api.Over)
				given(c, 5, api.Over)
			}))
		}
	}
}

func TestRecv(t *testing.T) {
	for ch := range 3 {
		p := threads(api.Recv, ch)
		c := with(stand(t, p), func(c *api.Core) { waits(c, api.Receiving, ch, 4, 2) })
		out := goes(t, "nothing", p, c, going{t: 1, state: api.Receiving, on: ch})
		isCore(t, "nothing", out, passed(c, 1, nil, func(c *api.Core) { waits(c, api.Receiving, ch, 1) }))
		for lie := 1; lie <= ch; lie++ {
			c := with(stand(t, p), func(c *api.Core) { c.Bufs[ch], c.Threads[1].Stack = numbers(lie), []int{8} })
			out := goes(t, "something lies", p, c, going{t: 1, stack: []int{8, 100}})
			isCore(t, "something lies", out, passed(c, 1, []int{8, 100}, func(c *api.Core) { c.Bufs[ch] = c.Bufs[ch][1:] }))
		}
		c = with(stand(t, p), func(c *api.Core) {
			c.Bufs[ch], c.Threads[1].Stack = numbers(ch), []int{8}
			sends(c, ch, 4, 100+ch)
			sends(c, ch, 0, 77)
			full(c, 0, 4)
		})
		out = goes(t, "some wait to send", p, c, going{t: 1, stack: []int{8, 100}, woken: []int{4}})
		isCore(t, "some wait to send", out, passed(c, 1, []int{8, 100}, func(c *api.Core) {
			c.Bufs[ch], c.SendQ[ch] = numbers(ch + 1)[1:], []int{0, 77}
			ready(c, 4)
		}))
	}
}

func TestSelect(t *testing.T) {
	for choice, l := range [][]int{{2, 0}, {1}, {0, 1, 2}} {
		p := threads(api.Select, choice)
		c := with(stand(t, p), func(c *api.Core) {
			waits(c, api.Receiving, l[0], 4)
			chooses(c, choice, 2)
		})
		out := goes(t, "nothing", p, c, going{t: 1, state: api.Selecting, on: choice})
		isCore(t, "nothing", out, passed(c, 1, nil, func(c *api.Core) { chooses(c, choice, 1) }))
		for place, ch := range l {
			// The later ones of the choice are ready, too, the earlier ones not.
			c := with(stand(t, p), func(c *api.Core) {
				c.Threads[1].Stack = []int{8}
				for i, ch := range l[place:] {
					c.Bufs[ch] = []int{60 + i, 70 + i}[:min(ch, 2)]
					sends(c, ch, []int{4, 0, 2}[i], 80+i)
				}
			})
			v := 60
			if ch == 0 {
				v = 80
			}
			out := goes(t, "one is ready", p, c, going{t: 1, stack: []int{8, v, place}, woken: []int{4}})
			isCore(t, "one is ready", out, passed(c, 1, []int{8, v, place}, func(c *api.Core) {
				c.Bufs[ch], c.SendQ[ch] = append(slices.Clone(c.Bufs[ch]), 80)[1:], nil
				ready(c, 4)
			}))
		}
	}
}

// None is woken by what lies in a channel, at which none waits.
func TestSelectOfWhatLies(t *testing.T) {
	p := threads(api.Select, 2)
	c := with(stand(t, p), func(c *api.Core) { c.Bufs[2] = []int{5} })
	out := goes(t, "it lies", p, c, going{t: 1, stack: []int{5, 2}})
	isCore(t, "it lies", out, passed(c, 1, []int{5, 2}, func(c *api.Core) { c.Bufs[2] = nil }))
}

// Who has no room for what it receives is over, and who joined it comes ahead of the one that sent; what it took is gone.
func TestReceivingWithoutRoom(t *testing.T) {
	for op, rooms := range map[int][]int{api.Recv: {0}, api.Select: {0, 1}} {
		for _, room := range rooms {
			p := threads(op, 1)
			c := with(stand(t, p), func(c *api.Core) {
				full(c, room, 1)
				c.Bufs[1] = []int{60}
				sends(c, 1, 0, 70)
				joining(c, 1, 5, 4)
			})
			out := goes(t, "no room", p, c, going{t: 1, state: api.Dead, seen: events(ended(1, api.Over)), woken: []int{4, 5, 0}})
			isCore(t, "no room", out, with(c, func(c *api.Core) {
				c.Threads[1] = api.Thread{State: api.Dead, Code: api.Over}
				c.Bufs[1], c.SendQ[1] = []int{70}, nil
				ready(c, 0)
				given(c, 4, api.Over)
				given(c, 5, api.Over)
			}))
		}
	}
}

// A number goes from hand to hand, whoever comes first.
func TestAChannelsWay(t *testing.T) {
	p := program(in(api.Recv, 0, api.Print, 0), in(api.Push, 9, api.Send, 0, api.Exit, 0), in(api.Select, 0, api.Print, 0, api.Print, 0))
	want := stand(t, p)
	goes(t, "the receiver first", p, want,
		going{t: 0, state: api.Receiving}, going{t: 2, state: api.Selecting},
		going{t: 1, stack: []int{9}}, going{t: 1, woken: []int{0}},
		going{t: 0, seen: events(printed(0, 9))},
	)
	goes(t, "the one that selects first", p, want,
		going{t: 2, state: api.Selecting}, going{t: 0, state: api.Receiving},
		going{t: 1, stack: []int{9}}, going{t: 1, woken: []int{2}},
		going{t: 2, stack: []int{9}, seen: events(printed(2, 1))}, going{t: 2, seen: events(printed(2, 9))},
	)
	goes(t, "the sender first", p, want,
		going{t: 1, stack: []int{9}}, going{t: 1, state: api.Sending},
		going{t: 2, stack: []int{9, 1}, woken: []int{1}},
		going{t: 0, state: api.Receiving},
		going{t: 1, state: api.Dead, seen: events(ended(1, api.Fine))},
	)
}
