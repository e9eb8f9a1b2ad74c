package raft

import (
	"slices"

	"quillet/api"
	"quillet/rlog"
	"quillet/snap"
)

// obey makes one its leader.
func (c *Core) obey(from int) { c.role, c.lead, c.quiet, c.yes = Follower, from, 0, nil }

// takeEntries takes entries in.
func (c *Core) takeEntries(m api.Msg) {
	if c.role == Leader {
		return
	}
	c.obey(m.From)
	if base, _ := c.log.Base(); m.Index >= base && !c.log.Has(m.Index, m.LogTerm) {
		last, _ := c.log.Last()
		c.send(api.Msg{Kind: api.Got, To: m.From, Term: c.term, Index: max(0, min(m.Index-1, last))})
		return
	}
	if !c.join(m.Entries) {
		return
	}
	end := m.Index + int64(len(m.Entries))
	c.commit = max(c.commit, min(m.Commit, end))
	c.send(api.Msg{Kind: api.Got, To: m.From, Term: c.term, Index: end, Ok: true})
}

// join makes the log have entries, of which it has the one ahead, or has dropped it; false: they can't be.
func (c *Core) join(es []api.Entry) bool {
	es = c.aboveBase(es)
	first := slices.IndexFunc(es, func(e api.Entry) bool { return !c.log.Has(e.Index, e.Term) })
	if !c.fit(es) || first >= 0 && es[first].Index <= c.commit {
		return false
	}
	if first >= 0 {
		from := es[first].Index
		c.log.CutFrom(from)
		c.log.Append(es[first:]...)
		c.touch(from)
	}
	return true
}

func (c *Core) aboveBase(es []api.Entry) []api.Entry {
	base, _ := c.log.Base()
	above := slices.IndexFunc(es, func(e api.Entry) bool { return e.Index > base })
	if above < 0 {
		return nil
	}
	return es[above:]
}

// fit tells whether a log could have entries behind what it has ahead of them: another log that ends there is asked, so that nothing is cut for what won't come.
func (c *Core) fit(es []api.Entry) bool {
	if len(es) == 0 {
		return true
	}
	ahead := es[0].Index - 1
	term, _ := c.log.Term(ahead)
	return rlog.New(ahead, term, api.Conf{}).Append(es...) == api.OK
}

// takePiece takes a piece of a snapshot in.
func (c *Core) takePiece(m api.Msg) {
	if c.role == Leader {
		return
	}
	c.obey(m.From)
	came, whole := m.Off, true
	if m.Index > c.commit {
		came, whole = c.gather(m)
	}
	c.send(api.Msg{Kind: api.Took, To: m.From, Term: c.term, Index: m.Index, Off: came, Last: whole})
}

// gather puts a piece behind those that have come, if it follows them: how many bytes have come of its snapshot then, and whether that is all.
func (c *Core) gather(m api.Msg) (int64, bool) {
	if m.Off == 0 {
		c.coming = snap.Snap{Index: m.Index, Term: m.LogTerm, Conf: cloneConf(m.Conf)}
	}
	came := 0
	if c.coming.Index == m.Index && c.coming.Term == m.LogTerm {
		came = len(c.coming.Data)
	}
	if m.Off != int64(came) || came+len(m.Data) > maxSnap {
		return int64(came), false
	}
	c.coming.Data = append(c.coming.Data, m.Data...)
	came = len(c.coming.Data)
	if m.Last {
		c.adopt()
	}
	return int64(came), m.Last
}

// adopt makes the snapshot that has come as a whole its own.
func (c *Core) adopt() {
	c.snap, c.coming = c.coming, snap.Snap{}
	if c.log.Has(c.snap.Index, c.snap.Term) {
		c.log.DropTo(c.snap.Index)
	} else {
		c.log = rlog.New(c.snap.Index, c.snap.Term, c.snap.Conf)
	}
	c.commit, c.whole = c.snap.Index, true
}
