package raft

import (
	"slices"

	"quillet/api"
	"quillet/conf"
)

// askAhead asks who would vote for it.
func (c *Core) askAhead() {
	if c.seek(Asker) {
		c.stand()
		return
	}
	c.askVoters(api.PreAsk, c.term+1)
}

// stand asks for votes.
func (c *Core) stand() {
	c.term++
	c.vote = c.n
	if c.seek(Candidate) {
		c.takeLead()
		return
	}
	c.askVoters(api.Ask, c.term)
}

// seek begins to gather yeses in a role, its own first; it tells whether that is enough.
func (c *Core) seek(role int) bool {
	c.role, c.lead, c.quiet, c.yes = role, 0, 0, nil
	return c.gain(c.n)
}

// gain takes a yes, and tells whether those that it has are a quorum.
func (c *Core) gain(from int) bool {
	if !slices.Contains(c.yes, from) {
		c.yes = append(c.yes, from)
	}
	return conf.Quorum(c.conf(), c.yes)
}

func (c *Core) askVoters(kind int, term int64) {
	index, logTerm := c.log.Last()
	for _, m := range conf.Others(api.Conf{Voters: c.conf().Voters}, c.n) {
		c.send(api.Msg{Kind: kind, To: m, Term: term, Index: index, LogTerm: logTerm})
	}
}

func (c *Core) preAsk(m api.Msg) {
	alone := c.lead == 0 || c.quiet >= trust
	if c.role != Leader && alone && c.log.Newer(m.Index, m.LogTerm) {
		c.send(api.Msg{Kind: api.PreSay, To: m.From, Term: m.Term, Ok: true})
	}
}

func (c *Core) preSay(m api.Msg) {
	if m.Ok && c.role == Asker && m.Term == c.term+1 && conf.Voter(c.conf(), m.From) && c.gain(m.From) {
		c.stand()
	}
}

func (c *Core) ask(m api.Msg) {
	ok := (c.vote == 0 || c.vote == m.From) && c.log.Newer(m.Index, m.LogTerm)
	if ok {
		c.vote, c.quiet = m.From, 0
	}
	c.send(api.Msg{Kind: api.Say, To: m.From, Term: c.term, Ok: ok})
}

func (c *Core) say(m api.Msg) {
	if m.Ok && c.role == Candidate && conf.Voter(c.conf(), m.From) && c.gain(m.From) {
		c.takeLead()
	}
}
