package raft_test

import (
	"math"
	"slices"
	"testing"

	"quillet/api"
	"quillet/conf"
	"quillet/msg"
	"quillet/raft"
	"quillet/rlog"
)

// both is a Core, and what is said of it. It also takes down what P18.2 asks for.
type both struct {
	t    *testing.T
	core *raft.Core
	said *said

	term   int64
	commit int64
	votes  map[int64]int
	done   map[int64]api.Entry
}

func newBoth(t *testing.T, x start) *both {
	t.Helper()
	return metBoth(t, x, map[string]int{})
}

// metBoth counts which words are met among others.
func metBoth(t *testing.T, x start, met map[string]int) *both {
	t.Helper()
	l := rlog.New(x.base, x.baseTerm, x.conf)
	if code := l.Append(x.es...); code != api.OK {
		t.Fatalf("no log of %v: %d", x.es, code)
	}
	b := &both{t: t, core: raft.New(x.n, x.term, x.vote, l, x.snap), said: saidNew(x, met), term: x.term, commit: x.base, votes: map[int64]int{}, done: map[int64]api.Entry{}}
	b.told("New")
	return b
}

// of is a member of voters, with an empty log.
func of(t *testing.T, n int, voters ...int) *both {
	t.Helper()
	return newBoth(t, start{n: n, conf: api.Conf{Voters: voters}})
}

func (b *both) tick(times int) {
	b.t.Helper()
	for range times {
		b.core.Tick()
		b.said.tick()
		b.told("Tick")
	}
}

func (b *both) step(ms ...api.Msg) {
	b.t.Helper()
	for _, m := range ms {
		b.core.Step(m)
		b.said.step(m)
		b.told(m)
	}
}

func (b *both) propose(data []byte) (int64, api.Errno) {
	b.t.Helper()
	got, code := b.core.Propose(data)
	want, wantCode := b.said.propose(data)
	if got != want || code != wantCode {
		b.t.Fatalf("Propose of %d bytes = %d, %d; not %d, %d", len(data), got, code, want, wantCode)
	}
	b.told("Propose")
	return got, code
}

func (b *both) change(kind, m int) (int64, api.Errno) {
	b.t.Helper()
	got, code := b.core.Change(kind, m)
	want, wantCode := b.said.change(kind, m)
	if got != want || code != wantCode {
		b.t.Fatalf("Change(%d, %d) = %d, %d; not %d, %d", kind, m, got, code, want, wantCode)
	}
	b.told("Change")
	return got, code
}

func (b *both) compact(index int64, data []byte) api.Errno {
	b.t.Helper()
	got, want := b.core.Compact(index, data), b.said.compact(index, data)
	if got != want {
		b.t.Fatalf("Compact(%d) of %d bytes = %d, not %d", index, len(data), got, want)
	}
	b.told("Compact")
	return got
}

// out takes what was sent, which must be right.
func (b *both) out() []api.Msg {
	b.t.Helper()
	got, want := b.core.Out(), b.said.out
	b.said.out = nil
	if !slices.EqualFunc(got, want, sameMsg) {
		b.t.Fatalf("sent is\n%v, not\n%v", got, want)
	}
	for _, m := range got {
		if !msg.Right(m) || m.From != b.said.n {
			b.t.Fatalf("sent is %v, which isn't right", m)
		}
	}
	return got
}

// one is the only message that was sent.
func (b *both) one() api.Msg {
	b.t.Helper()
	out := b.out()
	if len(out) != 1 {
		b.t.Fatalf("%d messages: %v", len(out), out)
	}
	return out[0]
}

// none asks that nothing was sent.
func (b *both) none(what string) {
	b.t.Helper()
	if out := b.out(); len(out) != 0 {
		b.t.Fatalf("%s: sent is %v", what, out)
	}
}

func (b *both) dirty() (int64, bool) {
	b.t.Helper()
	from, whole := b.core.Dirty()
	if from != b.said.dirty || whole != b.said.whole {
		b.t.Fatalf("Dirty is %d, %v; not %d, %v", from, whole, b.said.dirty, b.said.whole)
	}
	b.said.dirty, b.said.whole = 0, false
	return from, whole
}

// told holds all that is told against what is said, but for what telling takes away.
func (b *both) told(behind any) {
	b.t.Helper()
	c, s := b.core, b.said
	if c.Term() != s.term || c.Vote() != s.vote || c.Role() != s.role || c.Lead() != s.lead || c.Commit() != s.commit {
		b.t.Fatalf("behind %v: term %d, vote %d, role %d, lead %d, commit %d; not %d, %d, %d, %d, %d", behind, c.Term(), c.Vote(), c.Role(), c.Lead(), c.Commit(), s.term, s.vote, s.role, s.lead, s.commit)
	}
	for m := -1; m <= 9; m++ {
		want := int64(0)
		if s.role == raft.Leader && m != s.n && conf.Member(s.conf(), m) {
			want = s.match[m]
		}
		if got := c.Match(m); got != want {
			b.t.Fatalf("behind %v: Match(%d) = %d, not %d", behind, m, got, want)
		}
	}
	if got := c.Snap(); !sameSnap(got, s.snap) {
		b.t.Fatalf("behind %v: the snapshot is %v, not %v", behind, got, s.snap)
	}
	b.toldLog(behind)
	b.toldNever(behind)
}

func (b *both) toldLog(behind any) {
	b.t.Helper()
	l, s := b.core.Log(), b.said
	if i, term := l.Base(); i != s.base || term != s.baseTerm {
		b.t.Fatalf("behind %v: the base is %d, %d; not %d, %d", behind, i, term, s.base, s.baseTerm)
	}
	if got := l.Entries(0, math.MaxInt); !slices.EqualFunc(got, s.es, sameEntry) {
		b.t.Fatalf("behind %v: the entries are %v, not %v", behind, got, s.es)
	}
	if got := l.ConfAt(s.base); !sameConf(got, s.baseConf) {
		b.t.Fatalf("behind %v: the base's configuration is %v, not %v", behind, got, s.baseConf)
	}
}

// toldNever is P18.2: what never falls, and never changes.
func (b *both) toldNever(behind any) {
	b.t.Helper()
	c := b.core
	if c.Term() < b.term || c.Commit() < b.commit {
		b.t.Fatalf("behind %v: term %d, commit %d, ahead of it %d, %d", behind, c.Term(), c.Commit(), b.term, b.commit)
	}
	b.term, b.commit = c.Term(), c.Commit()
	if was := b.votes[c.Term()]; was != 0 && c.Vote() != was {
		b.t.Fatalf("behind %v: the votes %d and %d in term %d", behind, was, c.Vote(), c.Term())
	}
	b.votes[c.Term()] = c.Vote()
	if last, _ := c.Log().Last(); last < c.Commit() {
		b.t.Fatalf("behind %v: commit is %d, and the last %d", behind, c.Commit(), last)
	}
	for _, e := range c.Log().Entries(0, math.MaxInt) {
		if e.Index > c.Commit() {
			break
		}
		if was, ok := b.done[e.Index]; ok && !sameEntry(was, e) {
			b.t.Fatalf("behind %v: committed was %v, and now %v", behind, was, e)
		}
		b.done[e.Index] = e
	}
}

func noop(index, term int64) api.Entry { return api.Entry{Index: index, Term: term} }

func submit(index, term int64, data string) api.Entry {
	return api.Entry{Index: index, Term: term, Kind: api.Submit, Data: []byte(data)}
}

func change(index, term int64, c api.Conf) api.Entry {
	b, code := conf.Bytes(c)
	if code != api.OK {
		panic("no right configuration")
	}
	return api.Entry{Index: index, Term: term, Kind: api.Change, Data: b}
}

func voters(ns ...int) api.Conf { return api.Conf{Voters: ns} }

// elect makes a member lead by the yes of some, and takes away what it sends meanwhile, but the last.
func (b *both) elect(who ...int) {
	b.t.Helper()
	for range 100 {
		if b.core.Role() == raft.Asker {
			break
		}
		b.tick(1)
	}
	for _, m := range who {
		b.step(api.Msg{Kind: api.PreSay, From: m, To: b.said.n, Term: b.core.Term() + 1, Ok: true})
	}
	b.out()
	for _, m := range who {
		b.step(api.Msg{Kind: api.Say, From: m, To: b.said.n, Term: b.core.Term(), Ok: true})
	}
	if b.core.Role() != raft.Leader {
		b.t.Fatalf("no Leader by %v", who)
	}
}

// got is that one has all up to an index.
func (b *both) got(from int, index int64) {
	b.t.Helper()
	b.step(api.Msg{Kind: api.Got, From: from, To: b.said.n, Term: b.core.Term(), Index: index, Ok: true})
}

// lacks is that one has not what was ahead; it has something up to an index.
func (b *both) lacks(from int, index int64) {
	b.t.Helper()
	b.step(api.Msg{Kind: api.Got, From: from, To: b.said.n, Term: b.core.Term(), Index: index})
}
