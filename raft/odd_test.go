package raft_test

import (
	"math"
	"math/rand/v2"
	"testing"

	"quillet/api"
	"quillet/msg"
	"quillet/raft"
	"quillet/rlog"
	"quillet/snap"
)

// oddConfs are configurations that are no cluster's.
func oddConfs() []api.Conf {
	return []api.Conf{
		{}, voters(0), voters(8), voters(-5), voters(3, 1, 2), voters(1, 1, 2, 2), voters(1, 2, 9), voters(0, 1, 2, 8), {Learners: []int{1, 2}}, {Voters: []int{1, 2}, Learners: []int{2, 1, 0, 9}},
		voters(math.MaxInt), voters(math.MinInt), voters(math.MaxInt, 1, 2), voters(math.MinInt, 1, 2),
	}
}

// P18.3, and P1: whatever a Core is made of, no call panics, and what is sent is right.
func TestOddStarts(t *testing.T) {
	numbers := []int{1, 0, -5, 8, 3, math.MaxInt, math.MinInt}
	terms := []int64{0, 1, -1, -7, top - 1, top, top + 1, math.MaxInt64, math.MinInt64}
	snaps := []snap.Snap{{}, {Index: 5, Term: 1, Conf: voters(1, 2, 3), Data: make([]byte, 100)}, {Index: -1}, {Index: 5, Data: make([]byte, 40000), Conf: voters(1)}, {Index: math.MaxInt64, Term: math.MinInt64, Conf: voters(9)}}
	for _, c := range append(oddConfs(), voters(1, 2, 3)) {
		for _, n := range numbers {
			for _, term := range terms {
				for i, s := range snaps {
					l := rlog.New(int64(i), 2, c)
					l.Append(submit(int64(i)+1, 5, "x"))
					odd(t, raft.New(n, term, n+i, l, s), n, uint64(i))
				}
			}
		}
	}
}

// odd lets a Core meet all kinds of things.
func odd(t *testing.T, c *raft.Core, n int, seed uint64) {
	t.Helper()
	d := dice{rand.New(rand.NewPCG(182, seed))}
	term, commit := c.Term(), c.Commit()
	for range 40 {
		switch d.IntN(8) {
		case 0, 1:
			for range 30 {
				c.Tick()
			}
		case 2:
			c.Propose(d.data(20))
		case 3:
			c.Change(d.IntN(5), d.IntN(9))
		case 4:
			c.Compact(c.Commit(), d.data(200))
		default:
			s := saidNew(start{n: n, term: max(0, min(c.Term(), top-2)), es: c.Log().Entries(0, 9)}, map[string]int{})
			c.Step(d.msg(s))
			if m, ok := d.helped(&said{n: n, term: c.Term(), role: c.Role()}); ok {
				c.Step(m)
			}
		}
		for _, m := range c.Out() {
			if !msg.Right(m) || m.From != n {
				t.Fatalf("%d sends %v", n, m)
			}
		}
		if c.Term() < term || c.Commit() < commit {
			t.Fatalf("%d: term %d, commit %d, ahead of it %d, %d", n, c.Term(), c.Commit(), term, commit)
		}
		term, commit = c.Term(), c.Commit()
		c.Match(d.IntN(9) - 1)
		c.Snap()
		c.Dirty()
	}
}

// P18.1: patience is 10 + 2n of any number: it may be less than a tick, and more than there will ever be.
func TestOddPatience(t *testing.T) {
	for n, ticks := range map[int]int{0: 10, 8: 26, 100: 210, -1: 8, -4: 2, -5: 1, -6: 1, math.MinInt: 1, math.MaxInt: 0, math.MaxInt / 2: 0, 1 << 40: 0, 1<<62 - 5: 0} {
		c := raft.New(n, 0, 0, rlog.New(0, 0, voters(n)), snap.Snap{})
		for i := 1; i <= 1000; i++ {
			c.Tick()
			if leads := c.Role() == raft.Leader; leads != (ticks > 0 && i >= ticks) {
				t.Fatalf("%d, behind %d ticks: role %d", n, i, c.Role())
			}
		}
	}
}

// P18.1: voters are asked rising, and each once, however the list has them.
func TestOddVoters(t *testing.T) {
	for _, c := range []api.Conf{voters(3, 1, 2), voters(5, 4, 1, 4), voters(7, 7, 2, 1), {Voters: []int{3, 2, 1}, Learners: []int{6, 2, 4}}} {
		b := newBoth(t, start{n: 1, conf: c})
		b.tick(12)
		out := b.out()
		for i, m := range out {
			if i > 0 && m.To <= out[i-1].To || m.Kind != api.PreAsk {
				t.Errorf("%v: %v", c, out)
			}
		}
		for m := 2; m <= 7; m++ {
			b.step(api.Msg{Kind: api.PreSay, From: m, To: 1, Term: b.core.Term() + 1, Ok: true})
		}
		for m := 2; m <= 7; m++ {
			b.step(api.Msg{Kind: api.Say, From: m, To: 1, Term: b.core.Term(), Ok: true})
		}
		b.propose([]byte("x"))
		for m := 2; m <= 7; m++ {
			b.got(m, 2)
		}
		b.out()
		// A list that isn't in order is no configuration that could be changed.
		if _, code := b.change(1, 5); code != api.ErrArg && b.core.Role() == raft.Leader {
			t.Errorf("%v: Change = %d", c, code)
		}
	}
}

// P18.1: terms below 0: no entry may have one, and nothing may be sent of one.
func TestOddTerms(t *testing.T) {
	b := newBoth(t, start{n: 1, term: -5, conf: voters(1)})
	b.tick(12)
	if b.core.Role() != raft.Leader || b.core.Term() != -4 {
		t.Errorf("role %d, term %d", b.core.Role(), b.core.Term())
	}
	if index, code := b.propose(nil); index != 0 || code != api.ErrArg {
		t.Errorf("Propose = %d, %d", index, code)
	}
	b.none("a term below 0")
	b = newBoth(t, start{n: 1, term: -5, conf: voters(1, 2)})
	b.tick(12)
	b.none("a term below 0")
	b.step(api.Msg{Kind: api.Ask, From: 2, To: 1, Term: 1})
	if m := b.one(); !m.Ok || m.Term != 1 {
		t.Errorf("%v", m)
	}
}
