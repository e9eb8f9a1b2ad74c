package raft

import (
	"slices"

	"quillet/api"
	"quillet/conf"
)

// known is what a Leader knows of another member.
type known struct {
	next, match int64
	has         int // bytes of the snapshot
}

// knows is what is known of a member; if that is nothing, what a Leader begins with.
func (c *Core) knows(m int) *known {
	k := c.known[m]
	if k == nil {
		last, _ := c.log.Last()
		k = &known{next: last}
		c.known[m] = k
	}
	return k
}

// takeLead makes it the Leader of its term.
func (c *Core) takeLead() {
	c.role, c.lead, c.quiet, c.known = Leader, c.n, 0, map[int]*known{}
	// Where no entry may come any more, it leads without.
	c.put(api.Noop, nil)
	c.spread()
}

// put lets an entry of its term come behind the last one: its index.
func (c *Core) put(kind int, data []byte) (int64, api.Errno) {
	last, _ := c.log.Last()
	if last >= api.MaxNumber {
		return 0, api.ErrMany
	}
	e := api.Entry{Index: last + 1, Term: c.term, Kind: kind, Data: data}
	// The log refuses it only if its own last term is above the member's: so it may be behind a snapshot from one that was wrong.
	if code := c.log.Append(e); code != api.OK {
		return 0, code
	}
	c.touch(e.Index)
	return e.Index, api.OK
}

// spread is for behind a put: alone it may be enough to commit, and all others are to have it.
func (c *Core) spread() {
	c.reckon()
	c.sendToAll()
}

// reckon tells whether its commit has risen.
func (c *Core) reckon() bool {
	reached := conf.Middle(c.conf(), c.reach)
	// An entry of an elder term might still be lost, though so many have it.
	if reached <= c.commit || !c.log.Has(reached, c.term) {
		return false
	}
	c.commit = reached
	return true
}

// reach is up to where a member's log is known to be as its own.
func (c *Core) reach(m int) int64 {
	if m == c.n {
		last, _ := c.log.Last()
		return last
	}
	return c.Match(m)
}

func (c *Core) sendToAll() {
	for _, m := range conf.Others(c.conf(), c.n) {
		c.sendTo(m)
	}
}

// sendTo sends a member what it lacks next.
func (c *Core) sendTo(m int) {
	k := c.knows(m)
	if base, _ := c.log.Base(); k.next <= base {
		c.sendPiece(m, k.has)
		return
	}
	ahead := k.next - 1
	term, _ := c.log.Term(ahead)
	c.send(api.Msg{Kind: api.Append, To: m, Term: c.term, Index: ahead, LogTerm: term, Commit: c.commit, Entries: c.log.Entries(k.next, api.MaxBatch)})
}

func (c *Core) sendPiece(m, has int) {
	rest := c.snap.Data[has:]
	piece := slices.Clone(rest[:min(api.Chunk, len(rest))])
	c.send(api.Msg{Kind: api.Piece, To: m, Term: c.term, Index: c.snap.Index, LogTerm: c.snap.Term, Conf: cloneConf(c.snap.Conf), Off: int64(has), Data: piece, Last: len(piece) == len(rest)})
}

// hears tells whether it is a Leader to whom this one's answers matter.
func (c *Core) hears(from int) bool { return c.role == Leader && conf.Member(c.conf(), from) }

func (c *Core) got(m api.Msg) {
	switch {
	case !c.hears(m.From):
	case m.Ok:
		c.matched(m.From, m.Index)
	default:
		k := c.knows(m.From)
		k.next = max(k.match+1, min(k.next-1, m.Index+1))
		c.sendTo(m.From)
	}
}

func (c *Core) took(m api.Msg) {
	switch {
	case !c.hears(m.From):
	case m.Last:
		c.matched(m.From, m.Index)
	default:
		k := c.knows(m.From)
		if base, _ := c.log.Base(); m.Index == c.snap.Index && k.next <= base {
			k.has = int(min(m.Off, int64(len(c.snap.Data))))
			c.sendTo(m.From)
		}
	}
}

// matched takes down that a member has all up to an index.
func (c *Core) matched(from int, index int64) {
	last, _ := c.log.Last()
	if index > last {
		return
	}
	k := c.knows(from)
	k.match = max(k.match, index)
	k.next = max(k.next, k.match+1)
	switch {
	case c.reckon():
		c.sendToAll()
	case k.next <= last:
		c.sendTo(from)
	}
}
