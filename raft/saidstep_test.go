package raft_test

import (
	"quillet/api"
	"quillet/conf"
	"quillet/msg"
	"quillet/raft"
	"quillet/snap"
)

// step is the document's words on a message, in their order.
func (s *said) step(m api.Msg) {
	if !msg.Right(m) || m.To != s.n {
		s.meet("no message to it")
		return
	}
	if m.Term > s.term && m.Kind != api.PreAsk && !(m.Kind == api.PreSay && m.Ok) {
		s.meet("a greater term")
		s.follower(m.Term)
	}
	if m.Kind == api.PreAsk && m.Term <= s.term {
		s.meet("PreAsk of a term that was")
		s.send(api.Msg{Kind: api.PreSay, To: m.From, Term: s.term})
		return
	}
	if m.Term < s.term {
		s.elder(m)
		return
	}
	switch m.Kind {
	case api.PreAsk:
		s.preAsk(m)
	case api.PreSay:
		s.preSay(m)
	case api.Ask:
		s.ask(m)
	case api.Say:
		s.say(m)
	case api.Append, api.Piece:
		if s.role == raft.Leader {
			s.meet("to a Leader")
			return
		}
		s.role, s.lead, s.quiet, s.yes = raft.Follower, m.From, 0, nil
		if m.Kind == api.Append {
			s.append(m)
		} else {
			s.piece(m)
		}
	case api.Got, api.Took:
		s.answered(m)
	}
}

func (s *said) elder(m api.Msg) {
	switch m.Kind {
	case api.Ask:
		s.meet("Ask of an elder term")
		s.send(api.Msg{Kind: api.Say, To: m.From, Term: s.term})
	case api.Append:
		s.meet("Append of an elder term")
		s.send(api.Msg{Kind: api.Got, To: m.From, Term: s.term, Index: 0})
	case api.Piece:
		s.meet("Piece of an elder term")
		s.send(api.Msg{Kind: api.Took, To: m.From, Term: s.term, Index: m.Index, Off: 0})
	default:
		s.meet("another one of an elder term")
	}
}

func (s *said) preAsk(m api.Msg) {
	switch {
	case !s.newer(m):
		s.meet("PreAsk of an elder log")
	case s.role == raft.Leader:
		s.meet("PreAsk to a Leader")
	case s.lead != 0 && s.quiet < 10:
		s.meet("PreAsk while one leads")
	default:
		if s.lead != 0 {
			s.meet("PreAsk of one that is quiet")
		}
		s.meet("PreAsk")
		s.send(api.Msg{Kind: api.PreSay, To: m.From, Term: m.Term, Ok: true})
	}
}

func (s *said) preSay(m api.Msg) {
	switch {
	case !m.Ok:
		s.meet("PreSay that isn't Ok")
	case s.role != raft.Asker:
		s.meet("PreSay to none that asks")
	case m.Term != s.term+1:
		s.meet("PreSay of another term")
	case !s.voter(m.From):
		s.meet("PreSay of no voter")
	default:
		s.yes[m.From] = true
		if s.quorum() {
			s.stand()
		} else {
			s.meet("PreSay without a quorum")
		}
	}
}

func (s *said) ask(m api.Msg) {
	ok := false
	switch {
	case s.vote != 0 && s.vote != m.From:
		s.meet("Ask behind another vote")
	case !s.newer(m):
		s.meet("Ask of an elder log")
	default:
		s.meet("Ask as " + []string{"Follower", "Asker", "Candidate", "Leader"}[s.role])
		ok = true
		s.vote, s.quiet = m.From, 0
	}
	s.send(api.Msg{Kind: api.Say, To: m.From, Term: s.term, Ok: ok})
}

func (s *said) say(m api.Msg) {
	switch {
	case !m.Ok:
		s.meet("Say that isn't Ok")
	case s.role != raft.Candidate:
		s.meet("Say to none that stands")
	case !s.voter(m.From):
		s.meet("Say of no voter")
	default:
		s.yes[m.From] = true
		if s.quorum() {
			s.leads()
		} else {
			s.meet("Say without a quorum")
		}
	}
}

func (s *said) append(m api.Msg) {
	end := m.Index + int64(len(m.Entries))
	last, _ := s.last()
	if m.Index >= s.base && !s.hasAt(m.Index, m.LogTerm) {
		s.meet("Append of another log")
		s.send(api.Msg{Kind: api.Got, To: m.From, Term: s.term, Index: max(0, min(m.Index-1, last))})
		return
	}
	var above []api.Entry
	for _, e := range m.Entries {
		if e.Index > s.base {
			above = append(above, e)
		}
	}
	if len(above) < len(m.Entries) {
		s.meet("Append with what is dropped")
	}
	if s.wrong(above) {
		return
	}
	s.takes(above)
	if c := min(m.Commit, end); c > s.commit {
		s.meet("Append commits")
		s.commit = c
	}
	s.send(api.Msg{Kind: api.Got, To: m.From, Term: s.term, Index: end, Ok: true})
}

// wrong tells whether entries above the base are none that may come.
func (s *said) wrong(above []api.Entry) bool {
	for _, e := range above {
		if term, ok := s.termAt(e.Index); ok && e.Index <= s.commit && term != e.Term {
			s.meet("Append against what is committed")
			return true
		}
	}
	for _, e := range above {
		if _, code := conf.Load(e.Data); e.Kind == api.Change && code != api.OK {
			s.meet("Append of no configuration")
			return true
		}
	}
	for _, e := range above {
		if !s.hasAt(e.Index, e.Term) {
			ahead, _ := s.termAt(e.Index - 1)
			if e.Term < ahead {
				s.meet("Append of a term that falls")
			}
			return e.Term < ahead
		}
	}
	return false
}

func (s *said) takes(above []api.Entry) {
	came := false
	for _, e := range above {
		if !came && s.hasAt(e.Index, e.Term) {
			s.meet("Append of what is there")
			continue
		}
		if !came {
			if _, ok := s.termAt(e.Index); ok {
				s.meet("Append cuts")
			}
			s.cutFrom(e.Index)
			s.changed(e.Index)
			came = true
		}
		s.meet("Append of more")
		s.es = append(s.es, copiedEntry(e))
	}
}

func (s *said) piece(m api.Msg) {
	took := api.Msg{Kind: api.Took, To: m.From, Term: s.term, Index: m.Index}
	if m.Index <= s.commit {
		s.meet("Piece of what is committed")
		took.Off, took.Last = m.Off, true
		s.send(took)
		return
	}
	if m.Off == 0 {
		s.coming = snap.Snap{Index: m.Index, Term: m.LogTerm, Conf: copiedConf(m.Conf)}
	}
	came := 0
	if s.coming.Index == m.Index && s.coming.Term == m.LogTerm {
		came = len(s.coming.Data)
	} else {
		s.meet("Piece of another one")
	}
	took.Off = int64(came)
	switch {
	case m.Off != int64(came):
		s.meet("Piece with a gap")
		s.send(took)
		return
	case came+len(m.Data) > 32768:
		s.meet("Piece of too many")
		s.send(took)
		return
	}
	s.coming.Data = append(s.coming.Data, m.Data...)
	took.Off = int64(came + len(m.Data))
	if m.Last {
		took.Last = true
		s.wholeCame()
	} else {
		s.meet("Piece")
	}
	s.send(took)
}

func (s *said) wholeCame() {
	s.snap, s.coming = s.coming, snap.Snap{}
	if s.hasAt(s.snap.Index, s.snap.Term) {
		s.meet("the last Piece, of what is there")
		s.dropTo(s.snap.Index)
	} else {
		s.meet("the last Piece, of another log")
		s.base, s.baseTerm, s.baseConf, s.es = s.snap.Index, s.snap.Term, copiedConf(s.snap.Conf), nil
	}
	s.commit, s.whole = s.snap.Index, true
}

func (s *said) answered(m api.Msg) {
	last, _ := s.last()
	member := conf.Member(s.conf(), m.From)
	switch {
	case s.role != raft.Leader:
		s.meet("an answer to no Leader")
	case !member:
		s.meet("an answer of no member")
	case m.Kind == api.Got && !m.Ok:
		s.meet("Got that isn't Ok")
		s.next[m.From] = max(min(s.next[m.From]-1, m.Index+1), s.match[m.From]+1)
		s.sendTo(m.From)
	case m.Kind == api.Took && !m.Last:
		if m.Index != s.snap.Index || s.next[m.From] > s.base {
			s.meet("Took of another one")
			return
		}
		s.meet("Took")
		s.has[m.From] = min(int(m.Off), len(s.snap.Data))
		s.sendTo(m.From)
	case m.Index > last:
		s.meet("an answer beyond the log")
	default:
		s.match[m.From] = max(s.match[m.From], m.Index)
		s.next[m.From] = max(s.next[m.From], s.match[m.From]+1)
		if s.reckon() {
			s.sendAll()
		} else if s.next[m.From] <= last {
			s.meet("Got, and more to come")
			s.sendTo(m.From)
		} else {
			s.meet("Got, and nothing to come")
		}
	}
}
