package node_test

import (
	"slices"
	"testing"

	"quillet/api"
	"quillet/conf"
	"quillet/node"
	"quillet/snap"
)

// has tells what a member has: its number, its term, and the index and the term of its last entry.
func (b *both) has() (n int, term, last, lastTerm int64) {
	c := b.node.Core()
	last, lastTerm = c.Log().Last()
	return b.start.n, c.Term(), last, lastTerm
}

// odd keeps every second sector.
func (b *both) odd() []bool {
	keep := make([]bool, b.disk.Loose())
	for i := range keep {
		keep[i] = i%2 == 1
	}
	return keep
}

// again lets the power go, and opens a member again, whether it is down or not.
func (b *both) again(keep []bool) {
	b.letters()
	b.applied()
	was := b.node.Core()
	b.lose(keep)
	whole := newest(b.disk)
	b.fail(0)
	b.mustOpen()
	b.safe(was, whole)
}

// chosen are calls of which every order is tried; they go by what there is, so that most of them matter.
func chosen() []func(b *both) {
	return []func(b *both){
		func(b *both) { b.tick(1) },
		func(b *both) { b.tick(14) },
		func(b *both) {
			n, term, _, _ := b.has()
			b.step(api.Msg{Kind: api.PreSay, From: 3, To: n, Term: term + 1, Ok: true}, api.Msg{Kind: api.Say, From: 3, To: n, Term: term + 1, Ok: true})
		},
		func(b *both) {
			n, term, last, lastTerm := b.has()
			b.step(api.Msg{Kind: api.Ask, From: 3, To: n, Term: term + 1, Index: last, LogTerm: lastTerm})
		},
		func(b *both) {
			_, term, last, lastTerm := b.has()
			now := max(term, lastTerm, 1)
			b.step(appended(now, last, lastTerm, last, run(last+1, last+2, now)...))
		},
		func(b *both) {
			_, term, _, _ := b.has()
			c := b.node.Core()
			at, _ := c.Log().Term(c.Commit())
			b.step(appended(term+1, c.Commit(), at, c.Commit()+1, changed(c.Commit()+1, max(at, term), voters(1, 2, 3))))
		},
		func(b *both) {
			_, term, _, _ := b.has()
			c := b.node.Core()
			at, _ := c.Log().Term(c.Commit() + 1)
			b.step(pieces(max(1, term), snap.Snap{Index: c.Commit() + 1, Term: at, Conf: voters(1, 2, 3), Data: state(2)})...)
		},
		func(b *both) {
			_, term, last, lastTerm := b.has()
			b.step(pieces(max(1, term), snap.Snap{Index: last + 2, Term: lastTerm, Conf: voters(1, 2, 3), Data: state(0)})...)
		},
		func(b *both) {
			n, term, last, _ := b.has()
			b.step(api.Msg{Kind: api.Got, From: 3, To: n, Term: max(1, term), Index: last, Ok: true})
		},
		func(b *both) { b.submit(asked(1, 1, 0, 1)) },
		func(b *both) { b.submit(asked(2, 1, b.node.Machine().Count(), 2)) },
		func(b *both) { b.change(conf.Learn, 4) },
		func(b *both) { b.fail(1) },
		func(b *both) { b.fail(6) },
		func(b *both) { b.again(nil) },
		func(b *both) { b.again(b.odd()) },
	}
}

// starts are where the orders begin: new members, one that leads alone, one that leads others, one that follows with a snapshot.
func starts(t *testing.T) []func() *both {
	made := func(x start, then func(b *both)) func() *both {
		return func() *both {
			b := newBoth(t, x)
			then(b)
			b.letters()
			b.applied()
			return b
		}
	}
	c := node.Conf{Cert: room, Keep: 2}
	return []func() *both{
		made(start{2, voters(1, 2, 3), c}, func(b *both) {}),
		made(start{2, voters(2), c}, func(b *both) { b.tick(14) }),
		made(start{2, voters(1, 2, 3), c}, func(b *both) { b.elect(3) }),
		made(start{2, voters(1, 2, 3), c}, func(b *both) { b.step(appended(4, 0, 0, 3, run(1, 5, 2)...)) }),
	}
}

// P20.1 to P20.3: every order of three of the chosen calls, each as often as may be, from each start.
func TestEveryOrder(t *testing.T) {
	for i := range starts(t) {
		for k := range chosen() {
			t.Run("", func(t *testing.T) {
				t.Parallel()
				everyOrder(t, i, []int{k})
			})
		}
	}
}

func everyOrder(t *testing.T, from int, script []int) {
	calls := chosen()
	if len(script) < 3 {
		for k := range calls {
			everyOrder(t, from, append(slices.Clone(script), k))
		}
		return
	}
	b := starts(t)[from]()
	for i, k := range script {
		calls[k](b)
		// What waits is taken at once in some orders, in others at the end.
		if (from+i+k)%2 == 0 {
			b.letters()
		}
		if (from+i+k)%3 == 0 {
			b.applied()
		}
	}
	b.again(nil)
}
