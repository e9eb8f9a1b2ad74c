package raft

import (
	"slices"

	"quillet/api"
	"quillet/conf"
	"quillet/snap"
)

// Propose puts a submission behind.
func (c *Core) Propose(data []byte) (int64, api.Errno) {
	switch {
	case c.role != Leader:
		return 0, api.ErrLead
	case len(data) > maxData:
		return 0, api.ErrLong
	}
	return c.wish(api.Submit, data)
}

// wish lets an entry come, and spreads it.
func (c *Core) wish(kind int, data []byte) (int64, api.Errno) {
	index, code := c.put(kind, data)
	if code == api.OK {
		c.spread()
	}
	return index, code
}

// Change puts a configuration behind.
func (c *Core) Change(kind, m int) (int64, api.Errno) {
	next, code := c.changed(kind, m)
	if code != api.OK {
		return 0, code
	}
	data, _ := conf.Bytes(next)
	index, code := c.wish(api.Change, data)
	if code == api.OK && kind == conf.Remove {
		delete(c.known, m)
	}
	return index, code
}

// changed is what a change would make of its configuration, if it may be made now.
func (c *Core) changed(kind, m int) (api.Conf, api.Errno) {
	now, at := c.log.Conf()
	switch {
	case c.role != Leader:
		return api.Conf{}, api.ErrLead
	case at > c.commit || !c.log.Has(c.commit, c.term):
		return api.Conf{}, api.ErrBusy
	case kind == conf.Remove && m == c.n:
		return api.Conf{}, api.ErrArg
	}
	next, code := conf.Next(now, kind, m)
	if code == api.OK && kind == conf.Promote && c.Match(m) < c.commit {
		return api.Conf{}, api.ErrBusy
	}
	return next, code
}

// Compact makes a snapshot its own.
func (c *Core) Compact(index int64, data []byte) api.Errno {
	base, _ := c.log.Base()
	if index > c.commit || index <= base || len(data) > maxSnap {
		return api.ErrArg
	}
	term, _ := c.log.Term(index)
	c.snap = snap.Snap{Index: index, Term: term, Conf: c.log.ConfAt(index), Data: slices.Clone(data)}
	c.log.DropTo(index)
	for _, k := range c.known {
		k.has = 0
	}
	return api.OK
}
