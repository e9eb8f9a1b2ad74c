package raft_test

import (
	"math"
	"slices"
	"testing"

	"quillet/api"
	"quillet/raft"
	"quillet/rlog"
	"quillet/snap"
)

// P18.1: the chapter's examples.
func TestExamples(t *testing.T) {
	b := of(t, 1, 1)
	b.tick(11)
	if b.core.Role() != raft.Follower || b.core.Term() != 0 {
		t.Error("it leads too early")
	}
	b.tick(1)
	if b.core.Role() != raft.Leader || b.core.Term() != 1 || b.core.Commit() != 1 || !b.core.Log().Has(1, 1) || b.core.Lead() != 1 || b.core.Vote() != 1 {
		t.Error("it doesn't lead")
	}
	b.none("one alone")
	b = of(t, 1, 1, 2, 3)
	b.tick(12)
	want := []api.Msg{{Kind: api.PreAsk, From: 1, To: 2, Term: 1}, {Kind: api.PreAsk, From: 1, To: 3, Term: 1}}
	if out := b.out(); !slices.EqualFunc(out, want, sameMsg) || b.core.Term() != 0 || b.core.Vote() != 0 || b.core.Role() != raft.Asker {
		t.Errorf("asks ahead: %v", out)
	}
	b.step(api.Msg{Kind: api.PreSay, From: 3, To: 1, Term: 1, Ok: true})
	want[0].Kind, want[1].Kind = api.Ask, api.Ask
	if out := b.out(); !slices.EqualFunc(out, want, sameMsg) || b.core.Term() != 1 || b.core.Vote() != 1 || b.core.Role() != raft.Candidate {
		t.Errorf("stands: %v", out)
	}
	b.step(api.Msg{Kind: api.Say, From: 2, To: 1, Term: 1, Ok: true})
	sent := api.Msg{Kind: api.Append, From: 1, To: 2, Term: 1, Entries: []api.Entry{noop(1, 1)}}
	other := sent
	other.To = 3
	if out := b.out(); !slices.EqualFunc(out, []api.Msg{sent, other}, sameMsg) || b.core.Role() != raft.Leader || b.core.Lead() != 1 || b.core.Commit() != 0 {
		t.Errorf("leads: %v", out)
	}
}

// P18.1: a new Core is a Follower with what it was given.
func TestNew(t *testing.T) {
	s := snap.Snap{Index: 4, Term: 2, Conf: voters(1, 2), Data: []byte("four")}
	b := newBoth(t, start{n: 2, term: 7, vote: 3, base: 4, baseTerm: 2, conf: voters(1, 2), es: []api.Entry{noop(5, 3)}, snap: s})
	c := b.core
	if c.Term() != 7 || c.Vote() != 3 || c.Role() != raft.Follower || c.Lead() != 0 || c.Commit() != 4 || !sameSnap(c.Snap(), s) {
		t.Error("another one")
	}
	b.none("New")
	if from, whole := b.dirty(); from != 0 || whole {
		t.Errorf("Dirty is %d, %v", from, whole)
	}
	// A snapshot of index 0 is none, whatever else it has.
	c = raft.New(2, 0, 0, rlog.New(0, 0, voters(1)), snap.Snap{Term: 3, Conf: voters(1), Data: []byte("x")})
	if got := c.Snap(); !sameSnap(got, snap.Snap{}) {
		t.Errorf("of no snapshot is told %v", got)
	}
	l := rlog.New(0, 0, voters(1))
	if raft.New(2, 0, 0, l, snap.Snap{}).Log() != l {
		t.Error("the log isn't the Core's")
	}
}

// P18.1: patience hangs on the number, and is counted again from the asking on.
func TestPatience(t *testing.T) {
	for n := 1; n <= 7; n++ {
		b := of(t, n, 1, 2, 3, 4, 5, 6, 7)
		b.tick(10 + 2*n - 1)
		b.none("too early")
		for range 3 {
			b.tick(1)
			if out := b.out(); len(out) != 6 || out[0].Kind != api.PreAsk || b.core.Role() != raft.Asker || b.core.Term() != 0 {
				t.Fatalf("%d: %v", n, out)
			}
			b.tick(10 + 2*n - 1)
			b.none("asked already")
		}
	}
}

// P18.1: a Candidate that has waited asks ahead again, of the next term; its yeses are gone.
func TestCandidateAsksAhead(t *testing.T) {
	b := of(t, 1, 1, 2, 3, 4, 5)
	b.tick(12)
	yes := func(kind, from int, term int64) {
		t.Helper()
		b.step(api.Msg{Kind: kind, From: from, To: 1, Term: term, Ok: true})
	}
	yes(api.PreSay, 2, 1)
	yes(api.PreSay, 3, 1)
	yes(api.Say, 2, 1)
	if b.core.Role() != raft.Candidate || b.core.Term() != 1 {
		t.Fatalf("role %d", b.core.Role())
	}
	b.out()
	b.tick(12)
	if out := b.out(); len(out) != 4 || out[0].Kind != api.PreAsk || out[0].Term != 2 || b.core.Role() != raft.Asker || b.core.Term() != 1 || b.core.Vote() != 1 {
		t.Fatalf("%v", out)
	}
	// A vote that comes late isn't one for an Asker, nor a yes of the next asking.
	yes(api.Say, 3, 1)
	yes(api.PreSay, 3, 2)
	yes(api.PreSay, 3, 2)
	if b.core.Role() != raft.Asker {
		t.Fatalf("role %d", b.core.Role())
	}
	yes(api.PreSay, 4, 2)
	yes(api.Say, 4, 2)
	if b.core.Role() != raft.Candidate || b.core.Term() != 2 {
		t.Fatalf("role %d of %d", b.core.Role(), b.core.Term())
	}
	yes(api.Say, 4, 2)
	if b.core.Role() != raft.Candidate {
		t.Fatal("one's yes counts twice")
	}
	yes(api.Say, 5, 2)
	if b.core.Role() != raft.Leader {
		t.Fatal("it doesn't lead")
	}
}

// P18.1: who doesn't vote never asks; who isn't a voter gives no yes.
func TestNoVoter(t *testing.T) {
	for _, c := range []api.Conf{{Voters: []int{1, 2}, Learners: []int{3}}, {Voters: []int{1, 2}}, {}} {
		b := newBoth(t, start{n: 3, conf: c})
		b.tick(200)
		b.none("no voter")
		if b.core.Role() != raft.Follower {
			t.Errorf("role %d", b.core.Role())
		}
		// But it votes, if it is asked.
		b.step(api.Msg{Kind: api.Ask, From: 1, To: 3, Term: 1})
		if m := b.one(); !m.Ok || b.core.Vote() != 1 {
			t.Errorf("%v", m)
		}
	}
	b := newBoth(t, start{n: 1, conf: api.Conf{Voters: []int{1, 2, 3}, Learners: []int{4}}})
	b.tick(12)
	b.step(api.Msg{Kind: api.PreSay, From: 4, To: 1, Term: 1, Ok: true}, api.Msg{Kind: api.PreSay, From: 5, To: 1, Term: 1, Ok: true})
	if b.core.Role() != raft.Asker {
		t.Error("the yes of one who doesn't vote")
	}
	b.step(api.Msg{Kind: api.PreSay, From: 2, To: 1, Term: 1, Ok: true})
	b.step(api.Msg{Kind: api.Say, From: 4, To: 1, Term: 1, Ok: true}, api.Msg{Kind: api.Say, From: 5, To: 1, Term: 1, Ok: true})
	if b.core.Role() != raft.Candidate {
		t.Error("the vote of one who doesn't vote")
	}
	// Learners aren't asked, but have what is agreed upon.
	if out := b.out(); len(out) != 4 {
		t.Errorf("asked: %v", out)
	}
	b.step(api.Msg{Kind: api.Say, From: 2, To: 1, Term: 1, Ok: true})
	if out := b.out(); len(out) != 3 || out[2].To != 4 {
		t.Errorf("sent: %v", out)
	}
}

// P18.1: who would be voted for is told while nobody leads, or has led of late, and only if no log would be lost.
func TestPreAsk(t *testing.T) {
	b := newBoth(t, start{n: 2, term: 3, conf: voters(1, 2, 3), es: []api.Entry{noop(1, 2), noop(2, 3)}})
	asked := func(from int, term, index, logTerm int64) {
		t.Helper()
		b.step(api.Msg{Kind: api.PreAsk, From: from, To: 2, Term: term, Index: index, LogTerm: logTerm})
	}
	asked(1, 9, 2, 3)
	if m := b.one(); m.Kind != api.PreSay || !m.Ok || m.Term != 9 || m.To != 1 || b.core.Term() != 3 || b.core.Vote() != 0 {
		t.Errorf("%v", m)
	}
	asked(3, 9, 1, 4)
	if m := b.one(); !m.Ok {
		t.Errorf("another one: %v", m)
	}
	asked(1, 4, 1, 3)
	asked(1, 4, 9, 2)
	b.none("an elder log")
	for _, term := range []int64{1, 2, 3} {
		asked(1, term, 9, 9)
		if m := b.one(); m.Ok || m.Kind != api.PreSay || m.Term != 3 || m.To != 1 {
			t.Errorf("term %d: %v", term, m)
		}
	}
	b.step(api.Msg{Kind: api.Append, From: 3, To: 2, Term: 3, Index: 2, LogTerm: 3})
	b.out()
	for quiet := range 13 {
		asked(1, 4, 2, 3)
		if out := b.out(); len(out) != 0 != (quiet >= 10) {
			t.Errorf("quiet %d: %v", quiet, out)
		}
		b.tick(1)
	}
	b = of(t, 1, 1, 2, 3)
	b.elect(2)
	b.out()
	asked = func(from int, term, index, logTerm int64) {
		b.step(api.Msg{Kind: api.PreAsk, From: from, To: 1, Term: term, Index: index, LogTerm: logTerm})
	}
	asked(2, 2, 9, 9)
	b.none("to a Leader")
	asked(2, 1, 9, 9)
	if m := b.one(); m.Ok || m.Term != 1 {
		t.Errorf("to a Leader, of its term: %v", m)
	}
}

// P18.1: a PreSay is of the term behind the Asker's; one that isn't Ok only tells a greater term.
func TestPreSay(t *testing.T) {
	b := newBoth(t, start{n: 1, term: 4, conf: voters(1, 2, 3)})
	say := func(term int64, ok bool) {
		t.Helper()
		b.step(api.Msg{Kind: api.PreSay, From: 2, To: 1, Term: term, Ok: ok})
	}
	say(5, true)
	b.none("nobody has asked")
	b.tick(12)
	b.out()
	for _, term := range []int64{1, 3, 4, 6, 7, top} {
		say(term, true)
		if b.core.Role() != raft.Asker || b.core.Term() != 4 {
			t.Fatalf("of term %d: role %d, term %d", term, b.core.Role(), b.core.Term())
		}
	}
	say(4, false)
	say(3, false)
	if b.core.Role() != raft.Asker {
		t.Fatal("not Ok")
	}
	b.none("no yes")
	say(5, false)
	if b.core.Role() != raft.Follower || b.core.Term() != 5 {
		t.Fatal("not Ok, of a greater term")
	}
	say(6, true)
	if b.core.Role() != raft.Follower || b.core.Term() != 5 {
		t.Fatal("nobody has asked any more")
	}
}

// P18.1, P18.2: one vote a term, for a log that is at least as new.
func TestAsk(t *testing.T) {
	b := newBoth(t, start{n: 2, term: 3, conf: voters(1, 2, 3), es: []api.Entry{noop(1, 2), noop(2, 3)}})
	ask := func(from int, term, index, logTerm int64, ok bool) {
		t.Helper()
		b.step(api.Msg{Kind: api.Ask, From: from, To: 2, Term: term, Index: index, LogTerm: logTerm})
		if m := b.one(); m.Kind != api.Say || m.Ok != ok || m.To != from || m.Term != b.core.Term() {
			t.Errorf("%d, of term %d: %v", from, term, m)
		}
	}
	ask(1, 2, 9, 9, false)
	ask(1, 3, 1, 3, false)
	ask(1, 3, 9, 2, false)
	ask(1, 3, 2, 3, true)
	ask(1, 3, 2, 3, true)
	ask(3, 3, 9, 9, false)
	ask(1, 3, 1, 3, false)
	if b.core.Vote() != 1 {
		t.Errorf("vote %d", b.core.Vote())
	}
	// A greater term is taken on though its vote isn't given.
	ask(3, 5, 1, 3, false)
	if b.core.Term() != 5 || b.core.Vote() != 0 {
		t.Errorf("term %d, vote %d", b.core.Term(), b.core.Vote())
	}
	ask(1, 5, 1, 4, true)
	ask(3, 4, 9, 9, false)
	ask(3, 6, 2, 3, true)
	if b.core.Vote() != 3 || b.core.Term() != 6 {
		t.Errorf("term %d, vote %d", b.core.Term(), b.core.Vote())
	}
}

// P18.1: a vote that is given makes it wait anew; one that isn't, and a greater term, don't.
func TestAskAndQuiet(t *testing.T) {
	for _, x := range []struct {
		m    api.Msg
		left int
	}{
		{api.Msg{Kind: api.Ask, From: 1, To: 2, Term: 1}, 14},
		{api.Msg{Kind: api.Ask, From: 1, To: 2, Term: 1, Index: 1}, 14},
		{api.Msg{Kind: api.Say, From: 1, To: 2, Term: 4}, 4},
		{api.Msg{Kind: api.Got, From: 1, To: 2, Term: 4}, 4},
		{api.Msg{Kind: api.PreAsk, From: 1, To: 2, Term: 4}, 4},
		{api.Msg{Kind: api.Append, From: 1, To: 2, Term: 4}, 14},
		{api.Msg{Kind: api.Append, From: 1, To: 2, Term: 4, Index: 9}, 14},
		{api.Msg{Kind: api.Piece, From: 1, To: 2, Term: 4, Index: 1, Conf: voters(1)}, 14},
	} {
		b := of(t, 2, 1, 2, 3)
		b.tick(10)
		b.step(x.m)
		b.tick(x.left - 1)
		if b.core.Role() != raft.Follower {
			t.Errorf("%v: too early", x.m)
		}
		b.tick(1)
		if b.core.Role() != raft.Asker || b.core.Lead() != 0 {
			t.Errorf("%v: too late", x.m)
		}
	}
	b := newBoth(t, start{n: 2, conf: voters(1, 2, 3), es: []api.Entry{noop(1, 0)}})
	b.tick(10)
	b.step(api.Msg{Kind: api.Ask, From: 1, To: 2, Term: 1})
	b.tick(4)
	if b.core.Role() != raft.Asker {
		t.Error("a vote that isn't given makes it wait")
	}
}

// P18.1: an Asker may still vote, and still stands by the yeses that it has.
func TestAskerVotes(t *testing.T) {
	b := newBoth(t, start{n: 1, term: 1, conf: voters(1, 2, 3)})
	b.tick(12)
	b.out()
	b.step(api.Msg{Kind: api.Ask, From: 3, To: 1, Term: 1})
	if m := b.one(); !m.Ok || b.core.Vote() != 3 || b.core.Role() != raft.Asker {
		t.Errorf("%v", m)
	}
	b.step(api.Msg{Kind: api.PreSay, From: 2, To: 1, Term: 2, Ok: true})
	if b.core.Role() != raft.Candidate || b.core.Vote() != 1 || b.core.Term() != 2 {
		t.Errorf("role %d, vote %d", b.core.Role(), b.core.Vote())
	}
	b.out()
	b.step(api.Msg{Kind: api.Ask, From: 3, To: 1, Term: 2, Index: 9, LogTerm: 2})
	if m := b.one(); m.Ok {
		t.Error("a Candidate votes for another one")
	}
}

// P18.1: who leads, or asks, or stands, becomes a Follower by a greater term, and by an Append of its own.
func TestStepsDown(t *testing.T) {
	greater := []api.Msg{
		{Kind: api.PreSay, From: 2, To: 1, Term: 9}, {Kind: api.Ask, From: 2, To: 1, Term: 9}, {Kind: api.Say, From: 2, To: 1, Term: 9}, {Kind: api.Say, From: 2, To: 1, Term: 9, Ok: true},
		{Kind: api.Append, From: 2, To: 1, Term: 9}, {Kind: api.Got, From: 2, To: 1, Term: 9}, {Kind: api.Got, From: 2, To: 1, Term: 9, Ok: true}, {Kind: api.Piece, From: 2, To: 1, Term: 9, Index: 4, Conf: voters(2)}, {Kind: api.Took, From: 2, To: 1, Term: 9, Index: 1},
	}
	for role := raft.Asker; role <= raft.Leader; role++ {
		made := func() *both {
			b := of(t, 1, 1, 2, 3)
			b.tick(12)
			if role >= raft.Candidate {
				b.step(api.Msg{Kind: api.PreSay, From: 2, To: 1, Term: 1, Ok: true})
			}
			if role == raft.Leader {
				b.step(api.Msg{Kind: api.Say, From: 2, To: 1, Term: 1, Ok: true})
			}
			b.out()
			return b
		}
		for _, m := range greater {
			b := made()
			b.step(m)
			if b.core.Role() != raft.Follower || b.core.Term() != 9 || b.core.Match(2) != 0 {
				t.Errorf("role %d: %v: role %d, term %d", role, m, b.core.Role(), b.core.Term())
			}
			b.out()
			b.tick(40)
			b.out()
		}
		for _, m := range []api.Msg{{Kind: api.PreAsk, From: 2, To: 1, Term: 9}, {Kind: api.PreSay, From: 2, To: 1, Term: 9, Ok: true}} {
			b := made()
			b.step(m)
			if b.core.Role() != role || b.core.Term() == 9 {
				t.Errorf("role %d: %v: role %d, term %d", role, m, b.core.Role(), b.core.Term())
			}
			b.out()
		}
		for _, m := range []api.Msg{{Kind: api.Append, From: 3, To: 1, Term: 1}, {Kind: api.Piece, From: 3, To: 1, Term: 1, Index: 4, Conf: voters(2)}} {
			b := made()
			b.step(m)
			if out := b.out(); role == raft.Leader && (len(out) > 0 || b.core.Role() != raft.Leader || b.core.Lead() != 1) || role < raft.Leader && (len(out) != 1 || b.core.Role() != raft.Follower || b.core.Lead() != 3) {
				t.Errorf("role %d: %v: role %d, %v", role, m, b.core.Role(), out)
			}
			if role == raft.Candidate {
				b.step(api.Msg{Kind: api.Say, From: 2, To: 1, Term: 1, Ok: true})
				b.step(api.Msg{Kind: api.Say, From: 3, To: 1, Term: 1, Ok: true})
				if b.core.Role() != raft.Follower {
					t.Error("it leads by votes though it follows")
				}
			}
		}
	}
}

// P18.1: what is of an elder term is told its own; of some kinds nothing.
func TestElderTerm(t *testing.T) {
	b := newBoth(t, start{n: 1, term: 5, conf: voters(1, 2, 3)})
	for _, x := range []struct{ m, want api.Msg }{
		{api.Msg{Kind: api.PreAsk}, api.Msg{Kind: api.PreSay}},
		{api.Msg{Kind: api.Ask, Index: 9, LogTerm: 9}, api.Msg{Kind: api.Say}},
		{api.Msg{Kind: api.Append, Index: 7, LogTerm: 1, Commit: 3}, api.Msg{Kind: api.Got}},
		{api.Msg{Kind: api.Piece, Index: 7, LogTerm: 1, Off: 64, Conf: voters(1), Last: true}, api.Msg{Kind: api.Took, Index: 7}},
		{api.Msg{Kind: api.PreSay}, api.Msg{}},
		{api.Msg{Kind: api.PreSay, Ok: true}, api.Msg{}},
		{api.Msg{Kind: api.Say, Ok: true}, api.Msg{}},
		{api.Msg{Kind: api.Got, Index: 3, Ok: true}, api.Msg{}},
		{api.Msg{Kind: api.Took, Index: 3, Last: true}, api.Msg{}},
	} {
		for term := int64(1); term < 5; term++ {
			x.m.From, x.m.To, x.m.Term = 3, 1, term
			b.step(x.m)
			out := b.out()
			if x.want.Kind == 0 && len(out) == 0 {
				continue
			}
			x.want.From, x.want.To, x.want.Term = 1, 3, 5
			if len(out) != 1 || !sameMsg(out[0], x.want) {
				t.Errorf("%v: %v", x.m, out)
			}
			if b.core.Lead() != 0 {
				t.Errorf("%v leads", x.m)
			}
		}
	}
}

// P18.1: what isn't right, or not to it, does nothing.
func TestWrongMessages(t *testing.T) {
	b := newBoth(t, start{n: 1, conf: voters(1, 2, 3)})
	b.tick(11)
	for _, m := range []api.Msg{
		{}, {Kind: 9, From: 2, To: 1, Term: 1}, {Kind: -1, From: 2, To: 1, Term: 1}, {Kind: math.MaxInt, From: 2, To: 1, Term: 1}, {Kind: api.Ask, From: 2, To: 3, Term: 9},
		{Kind: api.Ask, From: 1, To: 1, Term: 9}, {Kind: api.Ask, From: 0, To: 1, Term: 9}, {Kind: api.Ask, From: 8, To: 1, Term: 9},
		{Kind: api.Ask, From: 2, To: 1, Term: 0}, {Kind: api.Ask, From: 2, To: 1, Term: -1}, {Kind: api.Ask, From: 2, To: 1, Term: top + 1}, {Kind: api.Ask, From: 2, To: 1, Term: math.MaxInt64},
		{Kind: api.Ask, From: 2, To: 1, Term: 9, Ok: true}, {Kind: api.Ask, From: 2, To: 1, Term: 9, Index: -1}, {Kind: api.Ask, From: 2, To: 1, Term: 9, LogTerm: top + 1},
		{Kind: api.Append, From: 2, To: 1, Term: 9, Entries: []api.Entry{noop(2, 1)}}, {Kind: api.Append, From: 2, To: 1, Term: 9, Entries: []api.Entry{noop(1, 10)}},
		{Kind: api.Append, From: 2, To: 1, Term: 9, Entries: make([]api.Entry, 9)}, {Kind: api.Append, From: 2, To: 1, Term: 9, Commit: -1},
		{Kind: api.Piece, From: 2, To: 1, Term: 9, Index: 4}, {Kind: api.Piece, From: 2, To: 1, Term: 9, Conf: voters(1)}, {Kind: api.Piece, From: 2, To: 1, Term: 9, Index: 4, Conf: voters(1), Data: make([]byte, 65)},
	} {
		b.step(m)
		b.none("a wrong message")
		if b.core.Term() != 0 || b.core.Lead() != 0 {
			t.Errorf("%v is taken", m)
		}
	}
	b.tick(1)
	if b.core.Role() != raft.Asker {
		t.Error("a wrong message makes it wait")
	}
}

// P18.1: behind the last term nobody asks any more; in it votes are given.
func TestLastTerm(t *testing.T) {
	b := newBoth(t, start{n: 1, term: top, conf: voters(1)})
	b.tick(100)
	if b.core.Role() != raft.Follower || b.core.Term() != top {
		t.Errorf("term %d", b.core.Term())
	}
	b.step(api.Msg{Kind: api.PreAsk, From: 2, To: 1, Term: top, Index: 9, LogTerm: 9})
	if m := b.one(); m.Ok || m.Term != top {
		t.Errorf("%v", m)
	}
	b.step(api.Msg{Kind: api.Ask, From: 2, To: 1, Term: top})
	if m := b.one(); !m.Ok || m.Term != top {
		t.Errorf("%v", m)
	}
	b = newBoth(t, start{n: 1, term: top - 1, conf: voters(1, 2)})
	b.elect(2)
	if b.core.Term() != top || b.core.Role() != raft.Leader {
		t.Errorf("term %d, role %d", b.core.Term(), b.core.Role())
	}
	b.out()
}
