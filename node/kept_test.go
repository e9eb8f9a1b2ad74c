package node_test

import (
	"maps"
	"math"
	"strings"

	"quillet/api"
	"quillet/disk"
	"quillet/msg"
	"quillet/node"
	"quillet/raft"
	"quillet/snap"
)

// kept is what P20.2 asks of the next Open, by what was sent and told.
type kept struct {
	term  int64           // the greatest that was sent
	votes map[int64]int   // by terms, as they were sent
	came  map[int64]int64 // the terms of the entries, by index, of which it was sent that they have come
	done  int64           // up to which index it was told that entries are applied
	base  int64           // the index of the newest snapshot that it had while it wasn't down
	seen  int             // of the letters that wait so many were looked at
}

func newKept() *kept { return &kept{votes: map[int64]int{}, came: map[int64]int64{}} }

// look takes down what was sent since, and forgets what others have taken the place of.
func (k *kept) look(letters []node.Letter, c *raft.Core, down bool) {
	for _, l := range letters[k.seen:] {
		m, _ := msg.Decode(l.B)
		k.sent(m, c)
	}
	k.seen = len(letters)
	if !down {
		k.forget(c)
		k.base = c.Snap().Index
	}
}

// replaced forgets what others may take the place of: these may be dropped from the log by the same call.
func (k *kept) replaced(es []api.Entry) {
	for _, e := range es {
		if term, ok := k.came[e.Index]; ok && term != e.Term {
			maps.DeleteFunc(k.came, func(index, _ int64) bool { return index >= e.Index })
		}
	}
}

// forget drops what isn't in the log any more.
func (k *kept) forget(c *raft.Core) {
	base, _ := c.Log().Base()
	maps.DeleteFunc(k.came, func(index, term int64) bool { return index > base && !c.Log().Has(index, term) })
}

// sent takes down what a letter has said.
func (k *kept) sent(m api.Msg, c *raft.Core) {
	// Of these the term is one that would be: nobody need have reached it.
	if m.Kind != api.PreAsk && !(m.Kind == api.PreSay && m.Ok) {
		k.term = max(k.term, m.Term)
	}
	switch {
	case m.Kind == api.Ask:
		k.votes[m.Term] = m.From
	case m.Kind == api.Say && m.Ok:
		k.votes[m.Term] = m.To
	case m.Kind == api.Got && m.Ok, m.Kind == api.Took && m.Last:
		k.have(c, m.Index)
	}
}

// have takes down that the entries up to an index have come.
func (k *kept) have(c *raft.Core, index int64) {
	for _, e := range c.Log().Entries(0, math.MaxInt) {
		if e.Index <= index {
			k.came[e.Index] = e.Term
		}
	}
}

func (k *kept) applied(as []node.Applied) {
	for _, a := range as {
		k.done = max(k.done, a.Index)
	}
}

// newest is the index of the newest whole snapshot on a disk.
func newest(d *disk.Disk) int64 {
	index := int64(0)
	for _, name := range d.Names() {
		b, _ := d.Read(name)
		if s, code := snap.Read(b); code == api.OK && strings.HasPrefix(name, "s0") {
			index = max(index, s.Index)
		}
	}
	return index
}

// crash lets the power go, opens the member again, and asks of it what P20.2 does.
func (b *both) crash(keep []bool) {
	b.t.Helper()
	was := b.node.Core()
	b.lose(keep)
	whole := newest(b.disk)
	b.fail(0)
	b.mustOpen()
	b.safe(was, whole)
}

func (b *both) safe(was *raft.Core, whole int64) {
	b.t.Helper()
	k, c, m := b.kept, b.node.Core(), b.node.Machine()
	if c.Term() < k.term {
		b.t.Fatalf("the term is %d, and %d was sent", c.Term(), k.term)
	}
	if vote := k.votes[c.Term()]; vote != 0 && c.Vote() != vote {
		b.t.Fatalf("in term %d the vote is %d, and was %d", c.Term(), c.Vote(), vote)
	}
	base, _ := c.Log().Base()
	k.forget(was)
	for index, term := range k.came {
		if index > base && !c.Log().Has(index, term) {
			b.t.Fatalf("%d of term %d has come, and isn't there: %v", index, term, c.Log().Entries(0, math.MaxInt))
		}
	}
	if last, _ := c.Log().Last(); last < k.done {
		b.t.Fatalf("up to %d is told as applied, and %d is the last", k.done, last)
	}
	// What was applied isn't known as such behind an Open: one that isn't of the cluster could take its place.
	k.done = 0
	if m.Index() < max(whole, k.base) || m.Index() != c.Commit() || m.Index() != base {
		b.t.Fatalf("the Machine is at %d, commit %d, the base %d, and a snapshot of %d was whole, one of %d was there", m.Index(), c.Commit(), base, whole, k.base)
	}
}
