package raft_test

import (
	"slices"
	"testing"

	"quillet/api"
	"quillet/conf"
	"quillet/raft"
	"quillet/snap"
)

// chosen are calls of which every order is tried; they go by what there is, so that most of them matter.
func chosen() []func(b *both) {
	from := func(m int, make func(s *said) api.Msg) func(b *both) {
		return func(b *both) {
			x := make(b.said)
			x.From, x.To = m, b.said.n
			b.step(x)
		}
	}
	return []func(b *both){
		func(b *both) { b.tick(1) },
		func(b *both) { b.tick(12) },
		from(2, func(s *said) api.Msg { return api.Msg{Kind: api.PreSay, Term: s.term + 1, Ok: true} }),
		from(3, func(s *said) api.Msg { return api.Msg{Kind: api.Say, Term: max(1, s.term), Ok: true} }),
		from(2, func(s *said) api.Msg {
			index, term := s.last()
			return api.Msg{Kind: api.PreAsk, Term: s.term + 1, Index: index, LogTerm: term}
		}),
		from(3, func(s *said) api.Msg {
			index, term := s.last()
			return api.Msg{Kind: api.Ask, Term: s.term + 1, Index: index, LogTerm: term}
		}),
		from(2, func(s *said) api.Msg {
			index, term := s.last()
			t := max(term, s.term, 1)
			return api.Msg{Kind: api.Append, Term: t, Index: index, LogTerm: term, Commit: index, Entries: []api.Entry{submit(index+1, t, "a"), noop(index+2, t)}}
		}),
		from(3, func(s *said) api.Msg {
			term, _ := s.termAt(s.commit)
			t := max(term, s.term) + 1
			return api.Msg{Kind: api.Append, Term: t, Index: s.commit, LogTerm: term, Entries: []api.Entry{change(s.commit+1, t, voters(1, 2, 3))}}
		}),
		from(2, func(s *said) api.Msg {
			return api.Msg{Kind: api.Piece, Term: max(1, s.term), Index: s.commit + 2, LogTerm: max(1, s.term), Data: []byte("bc"), Conf: voters(1, 2, 3)}
		}),
		from(2, func(s *said) api.Msg {
			return api.Msg{Kind: api.Piece, Term: max(1, s.term), Index: max(1, s.coming.Index), LogTerm: s.coming.Term, Off: int64(len(s.coming.Data)), Data: []byte("d"), Conf: voters(1, 2, 3), Last: true}
		}),
		from(2, func(s *said) api.Msg {
			index, _ := s.last()
			return api.Msg{Kind: api.Got, Term: max(1, s.term), Index: index, Ok: true}
		}),
		from(3, func(s *said) api.Msg { return api.Msg{Kind: api.Got, Term: max(1, s.term), Index: s.base} }),
		from(3, func(s *said) api.Msg {
			return api.Msg{Kind: api.Took, Term: max(1, s.term), Index: max(1, s.snap.Index), Off: 1}
		}),
		func(b *both) { b.propose([]byte("p")) },
		func(b *both) { b.change(conf.Remove, 3) },
		func(b *both) { b.change(conf.Learn, 3) },
		func(b *both) { b.compact(b.said.commit, []byte("sn")) },
	}
}

// starts are where the orders begin: a new member, one that asks, one that leads, one that has all kinds of things.
func starts(t *testing.T) []func() *both {
	made := func(x start, then func(b *both)) func() *both {
		return func() *both {
			b := newBoth(t, x)
			then(b)
			b.out()
			b.dirty()
			return b
		}
	}
	three := start{n: 1, conf: voters(1, 2, 3)}
	some := start{n: 1, term: 4, base: 3, baseTerm: 2, conf: voters(1, 2, 3), es: []api.Entry{noop(4, 2), submit(5, 4, "five"), submit(6, 4, "six")}, snap: snap.Snap{Index: 3, Term: 2, Conf: voters(1, 2, 3), Data: []byte("three")}}
	return []func() *both{
		made(three, func(b *both) {}),
		made(three, func(b *both) { b.tick(12) }),
		made(three, func(b *both) { b.elect(2) }),
		made(some, func(b *both) {}),
		made(some, func(b *both) { b.elect(3); b.got(2, 6); b.got(2, 7) }),
	}
}

// P18.1 to P18.3: every order of four of the chosen calls, each as often as may be, from each start.
func TestEveryOrder(t *testing.T) {
	for i := range starts(t) {
		for k := range chosen() {
			t.Run("", func(t *testing.T) {
				t.Parallel()
				everyOrder(t, i, []int{k})
			})
		}
	}
}

func everyOrder(t *testing.T, from int, script []int) {
	b := starts(t)[from]()
	calls := chosen()
	for i, k := range script {
		calls[k](b)
		// What waits is taken at once in some orders, in others at the end.
		if (from+i+k)%2 == 0 {
			b.out()
		}
		if (from+i+k)%3 == 0 {
			b.dirty()
		}
	}
	b.out()
	b.dirty()
	if len(script) == 4 {
		return
	}
	for k := range calls {
		everyOrder(t, from, append(slices.Clone(script), k))
	}
}

// P18.1: what is told of a member doesn't change it: Match, Log and Snap are asked behind every call by told, Term and the others too; here Out and Dirty, twice.
func TestTellingTakesOnce(t *testing.T) {
	b := of(t, 1, 1, 2)
	b.elect(2)
	b.out()
	b.dirty()
	if len(b.core.Out()) != 0 {
		t.Error("what was taken waits again")
	}
	if from, whole := b.core.Dirty(); from != 0 || whole {
		t.Error("what was told is told again")
	}
	if b.core.Role() != raft.Leader {
		t.Error("no Leader")
	}
}
