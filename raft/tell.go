package raft

import (
	"quillet/api"
	"quillet/rlog"
	"quillet/snap"
)

// Out is what it has sent.
func (c *Core) Out() []api.Msg {
	out := c.out
	c.out = nil
	return out
}

// Dirty is from where on entries have changed, and whether a snapshot has come.
func (c *Core) Dirty() (int64, bool) {
	dirty, whole := c.dirty, c.whole
	c.dirty, c.whole = 0, false
	return dirty, whole
}

// Term is its term.
func (c *Core) Term() int64 { return c.term }

// Vote is its vote.
func (c *Core) Vote() int { return c.vote }

// Role is its role.
func (c *Core) Role() int { return c.role }

// Lead is whom it believes to lead.
func (c *Core) Lead() int { return c.lead }

// Commit is its commit.
func (c *Core) Commit() int64 { return c.commit }

// Match is the match of another member.
func (c *Core) Match(m int) int64 {
	// Only a Leader knows something of others.
	if k := c.known[m]; k != nil {
		return k.match
	}
	return 0
}

// Log is its log.
func (c *Core) Log() *rlog.Log { return c.log }

// Snap is its snapshot.
func (c *Core) Snap() snap.Snap { return clone(c.snap) }
