package node_test

import (
	"bytes"
	"fmt"
	"math"
	"math/rand/v2"
	"testing"

	"quillet/api"
	"quillet/conf"
	"quillet/msg"
	"quillet/net"
	"quillet/node"
	"quillet/raft"
)

// cluster is members with disks among each other: what is under way may be lost, doubled, put aside and cut, and the power goes.
type cluster struct {
	t       *testing.T
	d       dice
	net     *net.Net
	members map[int]*both
	leaders map[int64]int
	done    map[int64]api.Entry      // what has committed, by index
	states  map[int64][]byte         // the Machines' bytes, by index
	told    map[[2]int64]api.Verdict // by session and number
	fresh   map[[2]int64]int64       // at which index it was decided
	asked   map[int64]int64          // up to which number a session has asked
}

func newCluster(t *testing.T, d dice, size, all int) *cluster {
	x := &cluster{t: t, d: d, net: net.New(300), members: map[int]*both{}, leaders: map[int64]int{}, done: map[int64]api.Entry{}, states: map[int64][]byte{}, told: map[[2]int64]api.Verdict{}, fresh: map[[2]int64]int64{}, asked: map[int64]int64{}}
	var boot api.Conf
	for n := range size {
		boot.Voters = append(boot.Voters, n+1)
	}
	for n := 1; n <= all; n++ {
		x.members[n] = newBoth(t, start{n, boot, node.Conf{Cert: room, Keep: 1 + d.IntN(6)}})
	}
	return x
}

// look takes what a member has to say, and asks whether all that members know together may be.
func (x *cluster) look(n int) {
	x.t.Helper()
	b := x.members[n]
	for _, m := range b.letters() {
		raw, _ := msg.Encode(m)
		x.net.Send(net.Letter{From: m.From, To: m.To, B: raw})
	}
	for _, a := range b.applied() {
		x.applied(n, a)
	}
	c := b.node.Core()
	if b.node.Down() {
		return
	}
	if c.Role() == raft.Leader {
		if was := x.leaders[c.Term()]; was != 0 && was != n {
			x.t.Fatalf("%d and %d lead in term %d", was, n, c.Term())
		}
		x.leaders[c.Term()] = n
	}
	for _, e := range c.Log().Entries(0, math.MaxInt) {
		if was, ok := x.done[e.Index]; e.Index <= c.Commit() && ok && !sameEntry(was, e) {
			x.t.Fatalf("%d has committed %v, another one %v", n, e, was)
		}
		if e.Index <= c.Commit() {
			x.done[e.Index] = e
		}
	}
	m := b.node.Machine()
	if was, ok := x.states[m.Index()]; ok && !bytes.Equal(was, m.Bytes()) {
		x.t.Fatalf("%d at %d is %v, another one was %v", n, m.Index(), m.Bytes(), was)
	}
	x.states[m.Index()] = m.Bytes()
}

// applied asks that what was told stays: each number is decided at one index alone, with one verdict.
func (x *cluster) applied(n int, a node.Applied) {
	x.t.Helper()
	key := [2]int64{a.Answer.Session, a.Answer.Seq}
	if key[0] == 0 {
		return
	}
	if was, ok := x.fresh[key]; a.Answer.Fresh && ok && was != a.Index {
		x.t.Fatalf("%d decides %v at %d, it was decided at %d", n, key, a.Index, was)
	}
	if a.Answer.Fresh {
		x.fresh[key] = a.Index
	}
	x.verdict(key, a.Answer.Verdict)
}

func (x *cluster) verdict(key [2]int64, v api.Verdict) {
	x.t.Helper()
	if v.Code == api.ErrGone || v.Code == api.ErrFull {
		return
	}
	if was, ok := x.told[key]; ok && was != v {
		x.t.Fatalf("of %v is told %v, and was %v", key, v, was)
	}
	x.told[key] = v
}

// deliver hands a letter to a member; one that is down doesn't get it.
func (x *cluster) deliver(i int) {
	l, ok := x.net.Take(i)
	if !ok {
		return
	}
	b := x.members[l.To]
	b.bytes(l.B)
	x.look(l.To)
}

// submit asks a member for the next number of a session, or for one that was asked for.
func (x *cluster) submit(n int) {
	session := 1 + x.d.Int64N(3)
	if x.asked[session] == 0 || x.d.IntN(3) == 0 && x.asked[session]-4 < x.open(session) {
		x.asked[session]++
	}
	x.ask(n, session, max(1, x.asked[session]-x.d.Int64N(3)))
}

// open is the least number of a session for which nothing was told.
func (x *cluster) open(session int64) int64 {
	for seq := int64(1); ; seq++ {
		if _, ok := x.told[[2]int64{session, seq}]; !ok {
			return seq
		}
	}
}

func (x *cluster) ask(n int, session, seq int64) {
	// By its number a submission is always the same.
	v, code := x.members[n].submit(asked(session, seq, (seq+session)%4, float64(seq%5), 5+float64(session)))
	if code == api.OK {
		x.verdict([2]int64{session, seq}, v)
	}
}

// anew opens a member whose power has gone.
func (x *cluster) anew(n int) {
	b := x.members[n]
	x.look(n)
	b.crash(x.d.keep(b.disk.Loose()))
	x.look(n)
}

func (x *cluster) change(n int) {
	c, _ := x.members[n].node.Core().Log().Conf()
	if len(c.Learners) > 0 && x.d.often(3) {
		x.members[n].change(conf.Promote, c.Learners[x.d.IntN(len(c.Learners))])
		return
	}
	x.members[n].change(1+x.d.IntN(3), 1+x.d.IntN(len(x.members)))
}

// happen is one thing that happens.
func (x *cluster) happen() {
	n := 1 + x.d.IntN(len(x.members))
	at := func() int { return x.d.IntN(x.net.Len() + 1) }
	switch k := x.d.IntN(100); {
	case k < 25:
		x.members[n].tick(1 + x.d.IntN(3))
	case k < 37:
		x.submit(n)
	case k < 39:
		x.change(n)
	case k < 41:
		x.members[n].fail(1 + x.d.IntN(20))
	case k < 42 || k < 60 && x.members[n].node.Down():
		x.anew(n)
	case k < 45:
		x.net.Drop(at())
	case k < 48:
		x.net.Double(at())
	case k < 50:
		x.net.Swap(at(), at())
	case k < 51:
		x.net.Short(at())
	case k < 58:
		x.deliver(at())
	default:
		x.deliver(0)
	}
	x.look(n)
}

// calm lets time pass for all, with power, and loses nothing.
func (x *cluster) calm(units int) {
	for n := 1; n <= len(x.members); n++ {
		x.members[n].fail(0)
		if x.members[n].node.Down() {
			x.anew(n)
		}
	}
	for range units {
		for n := 1; n <= len(x.members); n++ {
			x.members[n].tick(1)
			x.look(n)
		}
		for range 3000 {
			x.deliver(0)
		}
		if x.net.Len() > 0 {
			x.t.Fatalf("%d letters are under way yet", x.net.Len())
		}
	}
}

// leader is the one that leads in the greatest term.
func (x *cluster) leader() *both {
	var found *both
	for _, b := range x.members {
		if b.node.Core().Role() == raft.Leader && (found == nil || b.node.Core().Term() > found.node.Core().Term()) {
			found = b
		}
	}
	return found
}

// answered asks for all that is open, and that it is told.
func (x *cluster) answered() {
	b := x.leader()
	if b == nil {
		x.t.Fatal("nobody leads in the calm")
	}
	for range 2 {
		for session := int64(1); session <= 3; session++ {
			last := x.asked[session]
			for seq := max(1, last-3); seq <= last; seq++ {
				x.ask(b.start.n, session, seq)
			}
		}
		x.look(b.start.n)
		x.calm(4)
	}
	c := b.node.Core()
	last, _ := c.Log().Last()
	for _, n := range append(conf.Others(confOf(b), b.start.n), b.start.n) {
		m := x.members[n].node.Machine()
		if m.Index() != last || !bytes.Equal(m.Bytes(), b.node.Machine().Bytes()) {
			x.t.Fatalf("%d is at %d, the Leader at %d of %d", n, m.Index(), c.Commit(), last)
		}
		for session, last := range x.asked {
			if _, code := m.Look(session, last); code != api.ErrTwice {
				x.t.Fatalf("%d of session %d isn't answered: %d", last, session, code)
			}
		}
	}
}

func confOf(b *both) api.Conf {
	c, _ := b.node.Core().Log().Conf()
	return c
}

// P20.1, P20.2, and what they are for: whatever is lost, members never part, what was told stays, and in the calm all is answered.
func TestClusters(t *testing.T) {
	for i := range 8 {
		t.Run(fmt.Sprint(i), func(t *testing.T) {
			t.Parallel()
			decided := 0
			for seed := range 6 {
				d := dice{rand.New(rand.NewPCG(202, uint64(1000*i+seed)))}
				size := 1 + (i+seed)%5
				x := newCluster(t, d, size, min(7, size+d.IntN(3)))
				for range 2 {
					for range 600 {
						x.happen()
					}
					x.calm(60)
					x.answered()
				}
				decided += len(x.fresh)
			}
			if decided < 60 {
				t.Errorf("%d are decided alone", decided)
			}
		})
	}
}
