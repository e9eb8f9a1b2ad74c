package raft_test

import (
	"fmt"
	"hash/fnv"
	"math"
	"math/rand/v2"
	"slices"
	"strings"
	"testing"

	"quillet/api"
	"quillet/conf"
	"quillet/raft"
	"quillet/snap"
)

// cluster is members among each other: what they send may be lost, doubled and put aside; members may begin anew with what they must have kept.
type cluster struct {
	t       *testing.T
	d       dice
	met     map[string]int
	members map[int]*both
	way     []api.Msg
	leaders map[int64]int
	done    map[int64]api.Entry
	snaps   map[int64]snap.Snap
	cut     map[int]int // 1: all that goes to this one, or comes from it, is lost
	asked   int
}

func newCluster(t *testing.T, d dice, met map[string]int, size, all int) *cluster {
	x := &cluster{t: t, d: d, met: met, members: map[int]*both{}, leaders: map[int64]int{}, done: map[int64]api.Entry{}, snaps: map[int64]snap.Snap{}, cut: map[int]int{}}
	var boot api.Conf
	for n := range size {
		boot.Voters = append(boot.Voters, n+1)
	}
	for n := 1; n <= all; n++ {
		x.members[n] = metBoth(t, start{n: n, conf: boot}, met)
	}
	return x
}

// look takes what a member has sent, and asks whether all that members know together may be.
func (x *cluster) look(n int) {
	x.t.Helper()
	b := x.members[n]
	for _, m := range b.out() {
		if x.cut[m.From]+x.cut[m.To] == 0 {
			x.way = append(x.way, m)
		}
	}
	if b.core.Role() == raft.Leader {
		if was := x.leaders[b.core.Term()]; was != 0 && was != n {
			x.t.Fatalf("%d and %d lead in term %d", was, n, b.core.Term())
		}
		x.leaders[b.core.Term()] = n
	}
	for _, e := range b.core.Log().Entries(0, math.MaxInt) {
		if e.Index > b.core.Commit() {
			break
		}
		if was, ok := x.done[e.Index]; ok && !sameEntry(was, e) {
			x.t.Fatalf("%d has committed %v, another one %v", n, e, was)
		}
		x.done[e.Index] = e
	}
	s := b.core.Snap()
	if was, ok := x.snaps[s.Index]; ok && !sameSnap(was, s) {
		x.t.Fatalf("%d has the snapshot %v, another one %v", n, s, was)
	}
	x.snaps[s.Index] = s
}

// state stands for all that was agreed upon up to an index.
func (x *cluster) state(index int64) []byte {
	h := fnv.New64()
	for i := int64(1); i <= index; i++ {
		fmt.Fprintln(h, x.done[i])
	}
	return []byte(strings.Repeat(fmt.Sprintf("%d:%x ", index, h.Sum64()), 8))
}

func (x *cluster) compact(n int) {
	b := x.members[n]
	base, _ := b.core.Log().Base()
	if b.core.Commit() > base {
		index := b.core.Commit() - x.d.Int64N(b.core.Commit()-base)
		b.compact(index, x.state(index))
	}
}

// anew is a member that begins again: a Core keeps nothing, so it is made of what was told of it.
func (x *cluster) anew(n int) {
	s := x.members[n].said
	x.members[n] = metBoth(x.t, start{n: n, term: s.term, vote: s.vote, base: s.base, baseTerm: s.baseTerm, conf: s.baseConf, es: s.es, snap: s.snap}, x.met)
}

func (x *cluster) deliver(i int) {
	m := x.way[i]
	x.way = slices.Delete(x.way, i, i+1)
	x.members[m.To].step(m)
	x.look(m.To)
}

func (x *cluster) propose(n int) {
	x.asked++
	if _, code := x.members[n].propose([]byte(fmt.Sprint("asked ", x.asked))); code == api.OK {
		x.met["proposed"]++
	}
}

// happen is one thing that happens.
func (x *cluster) happen() {
	n := 1 + x.d.IntN(len(x.members))
	switch k := x.d.IntN(100); {
	case k < 25:
		x.members[n].tick(1 + x.d.IntN(3))
	case k < 31:
		x.propose(n)
	case k < 35:
		x.d.change(x.members[n], len(x.members))
	case k < 37:
		x.compact(n)
	case k < 38:
		x.anew(n)
	case k < 39:
		// Most of all one that leads, so that what it has is lost.
		if b := x.leader(); b != nil && x.d.often(3) {
			n = b.said.n
		}
		x.cut[n] = 1 - x.cut[n]
	case len(x.way) == 0:
	case k < 44:
		i := x.d.IntN(len(x.way))
		x.way = slices.Delete(x.way, i, i+1)
	case k < 47:
		x.way = append(x.way, x.way[x.d.IntN(len(x.way))])
	case k < 57:
		x.deliver(x.d.IntN(len(x.way)))
	default:
		x.deliver(0)
	}
	x.look(n)
}

// calm lets time pass for all, and loses nothing.
func (x *cluster) calm(units int) {
	clear(x.cut)
	for range units {
		for n := 1; n <= len(x.members); n++ {
			x.members[n].tick(1)
			x.look(n)
		}
		for range 5000 {
			if len(x.way) == 0 {
				break
			}
			x.deliver(0)
		}
		if len(x.way) > 0 {
			x.t.Fatalf("%d messages are under way yet", len(x.way))
		}
	}
}

// leader is the one that leads in the greatest term.
func (x *cluster) leader() *both {
	var found *both
	for _, b := range x.members {
		if b.core.Role() == raft.Leader && (found == nil || b.core.Term() > found.core.Term()) {
			found = b
		}
	}
	return found
}

// agree asks that one leads, and that all who belong to its configuration have all that it has.
func (x *cluster) agree() {
	b := x.leader()
	if b == nil {
		x.t.Fatal("nobody leads in the calm")
	}
	last, term := b.core.Log().Last()
	if b.core.Commit() != last {
		x.t.Fatalf("the Leader has committed %d of %d", b.core.Commit(), last)
	}
	for _, n := range conf.Others(b.said.conf(), b.said.n) {
		c := x.members[n].core
		if i, of := c.Log().Last(); c.Commit() != last || i != last || of != term || c.Lead() != b.said.n || b.core.Match(n) != last {
			x.t.Fatalf("%d has committed %d, its last is %d of %d; the Leader's %d of %d", n, c.Commit(), i, of, last, term)
		}
	}
}

// P18.2, P18.3, and what they are for: whatever is lost, in a term one leads, all commit the same, and in the calm they go on.
func TestClusters(t *testing.T) {
	const parts = 8
	mets := make([]map[string]int, parts)
	t.Run("runs", func(t *testing.T) {
		for i := range parts {
			mets[i] = map[string]int{}
			t.Run("", func(t *testing.T) {
				t.Parallel()
				for seed := range 40 {
					d := dice{rand.New(rand.NewPCG(181, uint64(1000*i+seed)))}
					size := 1 + (i+seed)%5
					x := newCluster(t, d, mets[i], size, min(7, size+d.IntN(3)))
					for range 3 {
						for range 500 {
							x.happen()
						}
						x.calm(80)
						x.agree()
					}
				}
			})
		}
	})
	met := map[string]int{}
	for _, some := range mets {
		for words, n := range some {
			met[words] += n
		}
	}
	for _, words := range []string{"leads", "commits", "proposed", "is promoted", "is removed", "compacts", "the last Piece, of another log", "Append cuts", "a greater term", "Got that isn't Ok", "Took"} {
		if met[words] < 30 {
			t.Errorf("met %d times alone: %s", met[words], words)
		}
	}
	if met["not right to be sent"] > 0 || met["Append against what is committed"] > 0 {
		t.Errorf("met what members among each other never meet: %v", met)
	}
}

// P18.2: with fewer than half of the voters nothing is decided; with more than half all goes on.
func TestHalfOfTheVoters(t *testing.T) {
	x := newCluster(t, dice{rand.New(rand.NewPCG(1, 1))}, map[string]int{}, 5, 5)
	x.calm(40)
	first := x.leader().said.n
	keep := func(who ...int) {
		x.way = slices.DeleteFunc(x.way, func(m api.Msg) bool { return !slices.Contains(who, m.From) || !slices.Contains(who, m.To) })
	}
	run := func(who []int) {
		for range 200 {
			for _, n := range who {
				x.members[n].tick(1)
				x.look(n)
			}
			for keep(who...); len(x.way) > 0; keep(who...) {
				x.deliver(0)
			}
		}
	}
	others := conf.Others(voters(1, 2, 3, 4, 5), first)
	few := []int{first, others[0]}
	commit := x.members[first].core.Commit()
	x.propose(first)
	run(few)
	if x.members[first].core.Commit() != commit {
		t.Error("two of five decide")
	}
	run(others[1:])
	b := x.leader()
	if b.said.n == first || b.core.Commit() <= commit {
		t.Errorf("three of five don't go on: %d leads, commit %d", b.said.n, b.core.Commit())
	}
	x.calm(40)
	x.agree()
	if x.members[first].core.Role() == raft.Leader {
		t.Error("the elder one leads yet")
	}
}
