package world_test

import (
	"fmt"
	"slices"

	"quillet/api"
	"quillet/client"
	"quillet/disk"
	"quillet/net"
	"quillet/node"
	"quillet/sub"
	"quillet/world"
)

// said is a world by the document's words. What is under way is a plain list, by layer 19's words.
type said struct {
	c       world.Conf
	disks   map[int]*disk.Disk
	up      map[int]*node.Node
	under   []net.Letter
	clients map[int]*client.Client
	added   map[int][]api.Sub // by client, canonised; that of number n stands at n - 1
	first   []world.Decision  // what was applied first at its index, in the order in which it was
	parted  bool
	met     map[string]int // how often which words were met
}

func saidNew(c world.Conf, met map[string]int) (*said, api.Errno) {
	if c.Nodes < 1 || c.Nodes > 5 || c.Spare < 0 || c.Spare > 2 || c.Clients < 1 || c.Clients > 3 {
		return nil, 1
	}
	s := &said{c: c, disks: map[int]*disk.Disk{}, up: map[int]*node.Node{}, clients: map[int]*client.Client{}, added: map[int][]api.Sub{}, met: met}
	var all []int
	for n := 1; n <= c.Nodes+c.Spare; n++ {
		all = append(all, n)
		s.disks[n] = disk.New()
		s.opens(n)
	}
	for n := 1; n <= c.Clients; n++ {
		s.clients[n] = client.New(int64(n), all)
	}
	return s, 0
}

// opens is layer 20's Open, with the voters of whom all began.
func (s *said) opens(n int) api.Errno {
	var boot api.Conf
	for v := 1; v <= s.c.Nodes; v++ {
		boot.Voters = append(boot.Voters, v)
	}
	x, e := node.Open(n, boot, s.c.Node, s.disks[n])
	if e == 0 {
		s.up[n] = x
	}
	return e
}

// behind is what happens behind each call of a Node.
func (s *said) behind(n int) {
	x := s.up[n]
	for _, l := range x.Letters() {
		if len(s.under) == 500 {
			s.met["a letter is lost: 500 are under way"]++
			continue
		}
		s.under = append(s.under, l)
	}
	for _, a := range x.Applied() {
		s.applied(a)
	}
	if x.Down() {
		s.met["down: not up any more"]++
		delete(s.up, n)
	}
}

func (s *said) applied(a node.Applied) {
	for _, d := range s.first {
		if d.Index == a.Index {
			if d.Answer != a.Answer {
				s.met["parted"]++
				s.parted = true
			}
			s.met["applied again"]++
			return
		}
	}
	s.met["decided"]++
	s.first = append(s.first, world.Decision{Index: a.Index, Answer: a.Answer})
}

func (s *said) decided() []world.Decision {
	out := slices.Clone(s.first)
	slices.SortFunc(out, func(a, b world.Decision) int { return int(a.Index - b.Index) })
	return out
}

func (s *said) history() []api.Done {
	var out []api.Done
	for _, d := range s.decided() {
		if a := d.Answer; a.Fresh && a.Verdict.Code == 0 {
			var x api.Sub
			if a.Seq <= int64(len(s.added[int(a.Session)])) {
				x = s.added[int(a.Session)][a.Seq-1]
			}
			out = append(out, api.Done{Num: a.Verdict.Num, Sub: x})
		}
	}
	return out
}

func (s *said) leader() int {
	leader := 0
	for n := 1; n <= 7; n++ {
		if x := s.up[n]; x != nil && x.Core().Role() == 3 && (leader == 0 || x.Core().Term() > s.up[leader].Core().Term()) {
			leader = n
		}
	}
	return leader
}

// asks is how a client asks.
func (s *said) asks(n int, hears bool) api.Errno {
	c := s.clients[n]
	to, b, ok := c.Next()
	if !ok {
		return 4
	}
	x, _ := sub.Decode(b)
	target := s.up[to]
	if target == nil {
		s.met["asks one that isn't up"]++
		if hears {
			c.Heard(x.Seq, api.Verdict{}, 50, 0)
		}
		return 0
	}
	v, e := target.Submit(b)
	s.met[fmt.Sprintf("asks: %d", e)]++
	if hears {
		c.Heard(x.Seq, v, e, target.Core().Lead())
	}
	s.behind(to)
	return 0
}

func (s *said) adds(n int, x api.Sub) api.Errno {
	if x.Snap < 0 {
		newest := int64(len(s.history()))
		x.Snap = newest - (-1 - x.Snap)
		if x.Snap < 0 {
			s.met["a Snap that would be below 0"]++
			x.Snap = 0
		}
	}
	seq, e := s.clients[n].Add(x)
	if e == 0 {
		x.Session, x.Seq = int64(n), seq
		x, _ = sub.Canon(x)
		s.added[n] = append(s.added[n], x)
	}
	return e
}

// delivers takes the i-th letter.
func (s *said) delivers(i int) api.Errno {
	if i < 0 || i >= len(s.under) {
		return 4
	}
	l := s.under[i]
	s.under = slices.Concat(s.under[:i], s.under[i+1:])
	if s.up[l.To] == nil {
		s.met["a letter for one that isn't up"]++
		return 0
	}
	s.up[l.To].Receive(l.B)
	s.behind(l.To)
	return 0
}

// way is a step of the net but Deliver.
func (s *said) way(x world.Step) api.Errno {
	n := len(s.under)
	if x.A < 0 || x.A >= n {
		return 4
	}
	l := s.under[x.A]
	switch x.Kind {
	case 3:
		s.under = slices.Concat(s.under[:x.A], s.under[x.A+1:])
	case 4:
		if n == 500 {
			s.met["no Double: 500 are under way"]++
			return 4
		}
		s.under = append(s.under, l)
	case 5:
		if x.B < 0 || x.B >= n {
			return 4
		}
		s.under[x.A], s.under[x.B] = s.under[x.B], l
	case 6:
		if len(l.B) == 0 {
			s.met["no Short: it has no byte"]++
			return 4
		}
		s.under[x.A].B = slices.Clone(l.B[:len(l.B)-1])
	}
	return 0
}

// do is a step, in the order of the chapter's words.
func (s *said) do(x world.Step) api.Errno {
	e := s.does(x)
	s.met[fmt.Sprintf("%d: %d", x.Kind, e)]++
	return e
}

func (s *said) does(x world.Step) api.Errno {
	member := func(n int) bool { return s.disks[n] != nil }
	switch x.Kind {
	case 2:
		return s.delivers(x.A)
	case 3, 4, 5, 6:
		return s.way(x)
	case 10, 11:
		if s.clients[x.N] == nil {
			return 1
		}
		if x.Kind == 10 {
			return s.adds(x.N, x.Sub)
		}
		return s.asks(x.N, x.A == 0)
	case 1, 7, 8, 9, 12:
		if !member(x.N) || x.Kind == 12 && !member(x.B) {
			return 1
		}
		return s.ofMember(x)
	}
	return 1
}

func (s *said) ofMember(x world.Step) api.Errno {
	up := s.up[x.N]
	switch {
	case x.Kind == 7:
		s.disks[x.N].Crash(x.Keep)
		delete(s.up, x.N)
		return 0
	case x.Kind == 8 && up != nil:
		return 4
	case x.Kind == 8:
		return s.opens(x.N)
	case up == nil:
		return 4
	case x.Kind == 9:
		s.disks[x.N].Fail(x.A)
		return 0
	}
	var e api.Errno
	if x.Kind == 12 {
		e = up.Change(x.A, x.B)
	} else {
		up.Tick()
	}
	s.behind(x.N)
	return e
}

func (s *said) calm(units int) {
	if units > 1000 {
		units = 1000
	}
	for ; units > 0; units-- {
		s.unit()
	}
}

func (s *said) unit() {
	for n := 1; n <= len(s.disks); n++ {
		s.disks[n].Fail(0)
		if s.up[n] == nil {
			s.met["started in the calm"]++
			s.disks[n].Crash(nil)
			s.opens(n)
		}
		if s.up[n] != nil {
			s.up[n].Tick()
			s.behind(n)
		}
	}
	for n := 1; n <= len(s.clients); n++ {
		s.asks(n, true)
	}
	for i := 0; i < 5000 && len(s.under) > 0; i++ {
		s.delivers(0)
	}
	if len(s.under) > 0 {
		s.met["more than 5000 letters"]++
	}
}
