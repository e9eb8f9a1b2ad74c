package world

import (
	"quillet/api"
	"quillet/client"
)

// The kinds of steps.
const (
	Tick = iota + 1
	Deliver
	Drop
	Double
	Swap
	Short
	Crash
	Start
	Fail
	Ask
	Poll
	Change
)

// Step is a step of a script.
type Step struct {
	Kind, N, A, B int
	Sub           api.Sub
	Keep          []bool
}

// Do does a step.
func (w *World) Do(s Step) api.Errno {
	switch s.Kind {
	case Deliver, Drop, Double, Swap, Short:
		if !w.underWay(s) {
			return api.ErrNone
		}
		return api.OK
	case Tick, Crash, Start, Fail, Change:
		return w.ofMember(s)
	case Ask, Poll:
		return w.ofClient(s)
	}
	return api.ErrArg
}

// underWay is a step with what is under way; false: there is no such letter, or it can't be done to it.
func (w *World) underWay(s Step) bool {
	switch s.Kind {
	case Drop:
		return w.net.Drop(s.A)
	case Double:
		return w.net.Double(s.A)
	case Swap:
		return w.net.Swap(s.A, s.B)
	case Short:
		return w.net.Short(s.A)
	}
	return w.deliver(s.A)
}

// deliver hands a letter over; who isn't up doesn't get it. False: there is no such letter.
func (w *World) deliver(i int) bool {
	l, ok := w.net.Take(i)
	if !ok {
		return false
	}
	if m := at(w.members, l.To); m != nil && m.node != nil {
		m.node.Receive(l.B)
		w.heed(m)
	}
	return true
}

func (w *World) ofMember(s Step) api.Errno {
	m := at(w.members, s.N)
	switch {
	case m == nil || s.Kind == Change && at(w.members, s.B) == nil:
		return api.ErrArg
	case s.Kind == Crash:
		m.crash(s.Keep)
		return api.OK
	case s.Kind == Start && m.node == nil:
		return w.start(m)
	case s.Kind == Start || m.node == nil:
		return api.ErrNone
	}
	return w.ofNode(m, s)
}

// ofNode is a step of a member that is up.
func (w *World) ofNode(m *member, s Step) api.Errno {
	switch s.Kind {
	case Fail:
		m.disk.Fail(s.A)
	case Change:
		code := m.node.Change(s.A, s.B)
		w.heed(m)
		return code
	case Tick:
		w.tick(m)
	}
	return api.OK
}

func (w *World) tick(m *member) {
	m.node.Tick()
	w.heed(m)
}

func (w *World) ofClient(s Step) api.Errno {
	c := at(w.clients, s.N)
	switch {
	case c == nil:
		return api.ErrArg
	case s.Kind == Ask:
		_, code := c.Add(w.onSnap(s.Sub))
		return code
	case !w.poll(s.N, c, s.A == 0):
		return api.ErrNone
	}
	return api.OK
}

// onSnap is a submission whose Snap, where that counts back, is a transaction's number.
func (w *World) onSnap(s api.Sub) api.Sub {
	if s.Snap < 0 {
		s.Snap = max(0, w.newest+1+s.Snap)
	}
	return s
}

// poll lets a client ask, who perhaps doesn't hear the answer; false: it has nothing to ask.
func (w *World) poll(n int, c *client.Client, hears bool) bool {
	to, b, ok := c.Next()
	if !ok {
		return false
	}
	seq := c.Open()[0] // which Next has told the bytes of
	w.submitted[[2]int64{int64(n), seq}] = b
	v, code, lead := w.submit(at(w.members, to), b)
	if hears {
		c.Heard(seq, v, code, lead)
	}
	return true
}

// submit is a member's answer, and whom it believes to lead.
func (w *World) submit(m *member, b []byte) (api.Verdict, api.Errno, int) {
	if m.node == nil {
		return api.Verdict{}, api.ErrDown, 0
	}
	v, code := m.node.Submit(b)
	lead := m.node.Core().Lead()
	w.heed(m)
	return v, code, lead
}
