package raft_test

import (
	"bytes"
	"slices"

	"quillet/api"
	"quillet/conf"
	"quillet/msg"
	"quillet/raft"
	"quillet/snap"
)

const top = int64(1) << 40

// said is a member by the document's words: its log is a list that is gone through each time, and it counts which of the words were met.
type said struct {
	n              int
	term           int64
	vote           int
	base, baseTerm int64
	baseConf       api.Conf
	es             []api.Entry
	commit         int64
	role, lead     int
	quiet          int
	yes            map[int]bool
	snap, coming   snap.Snap
	next, match    map[int]int64
	has            map[int]int
	out            []api.Msg
	dirty          int64
	whole          bool
	met            map[string]int
}

// start is all that a member is made of.
type start struct {
	n              int
	term           int64
	vote           int
	base, baseTerm int64
	conf           api.Conf
	es             []api.Entry
	snap           snap.Snap
}

func saidNew(x start, met map[string]int) *said {
	s := &said{n: x.n, term: x.term, vote: x.vote, base: x.base, baseTerm: x.baseTerm, baseConf: copiedConf(x.conf), commit: x.base, met: met}
	for _, e := range x.es {
		s.es = append(s.es, copiedEntry(e))
	}
	if x.snap.Index != 0 {
		s.snap = copiedSnap(x.snap)
	}
	return s
}

func copiedConf(c api.Conf) api.Conf {
	return api.Conf{Voters: append([]int(nil), c.Voters...), Learners: append([]int(nil), c.Learners...)}
}

func copiedEntry(e api.Entry) api.Entry {
	e.Data = append([]byte(nil), e.Data...)
	return e
}

func copiedSnap(s snap.Snap) snap.Snap {
	s.Conf = copiedConf(s.Conf)
	s.Data = append([]byte(nil), s.Data...)
	return s
}

func sameConf(a, b api.Conf) bool {
	return slices.Equal(a.Voters, b.Voters) && slices.Equal(a.Learners, b.Learners)
}

func sameEntry(a, b api.Entry) bool {
	return a.Index == b.Index && a.Term == b.Term && a.Kind == b.Kind && bytes.Equal(a.Data, b.Data)
}

func sameSnap(a, b snap.Snap) bool {
	return a.Index == b.Index && a.Term == b.Term && sameConf(a.Conf, b.Conf) && bytes.Equal(a.Data, b.Data)
}

func sameMsg(a, b api.Msg) bool {
	return a.Kind == b.Kind && a.From == b.From && a.To == b.To && a.Term == b.Term && a.Index == b.Index && a.LogTerm == b.LogTerm &&
		a.Commit == b.Commit && a.Ok == b.Ok && a.Off == b.Off && a.Last == b.Last && bytes.Equal(a.Data, b.Data) &&
		sameConf(a.Conf, b.Conf) && slices.EqualFunc(a.Entries, b.Entries, sameEntry)
}

// meet counts that words were met.
func (s *said) meet(words string) { s.met[words]++ }

func (s *said) last() (int64, int64) {
	index, term := s.base, s.baseTerm
	for _, e := range s.es {
		index, term = e.Index, e.Term
	}
	return index, term
}

func (s *said) termAt(index int64) (int64, bool) {
	if index == s.base {
		return s.baseTerm, true
	}
	for _, e := range s.es {
		if e.Index == index {
			return e.Term, true
		}
	}
	return 0, false
}

func (s *said) hasAt(index, term int64) bool {
	is, ok := s.termAt(index)
	return ok && is == term
}

// newer is of the log of one who asks: it is at least as new.
func (s *said) newer(m api.Msg) bool {
	index, term := s.last()
	return m.LogTerm > term || m.LogTerm == term && m.Index >= index
}

func (s *said) confAt(index int64) (api.Conf, int64) {
	c, at := s.baseConf, s.base
	for _, e := range s.es {
		if e.Kind == api.Change && e.Index <= index {
			c, _ = conf.Load(e.Data)
			at = e.Index
		}
	}
	return c, at
}

func (s *said) conf() api.Conf {
	c, _ := s.confAt(top)
	return c
}

func (s *said) others() []int { return conf.Others(s.conf(), s.n) }

func (s *said) voter(n int) bool { return slices.Contains(s.conf().Voters, n) }

func (s *said) cutFrom(index int64) {
	for i, e := range s.es {
		if e.Index == index {
			s.es = s.es[:i:i]
			return
		}
	}
}

func (s *said) dropTo(index int64) {
	s.baseTerm, _ = s.termAt(index)
	s.baseConf, _ = s.confAt(index)
	s.base = index
	var left []api.Entry
	for _, e := range s.es {
		if e.Index > index {
			left = append(left, e)
		}
	}
	s.es = left
}

func (s *said) changed(from int64) {
	if s.dirty == 0 || from < s.dirty {
		s.dirty = from
	}
}

func (s *said) send(m api.Msg) {
	m.From = s.n
	if msg.Right(m) {
		s.out = append(s.out, m)
		s.meet("sent")
	} else {
		s.meet("not right to be sent")
	}
}

func (s *said) quorum() bool {
	yes := 0
	for _, v := range s.conf().Voters {
		if s.yes[v] {
			yes++
		}
	}
	return 2*yes > len(s.conf().Voters)
}

func (s *said) follower(term int64) {
	s.term, s.vote, s.role, s.lead, s.yes = term, 0, raft.Follower, 0, nil
}

func (s *said) tick() {
	s.quiet++
	if s.role == raft.Leader {
		if s.quiet >= 2 {
			s.meet("beat")
			s.quiet = 0
			s.sendAll()
		}
		return
	}
	switch {
	case s.quiet < 10+2*s.n:
	case !s.voter(s.n):
		s.meet("no voter doesn't ask")
	case s.term >= top:
		s.meet("the last term")
	default:
		s.askAhead()
	}
}

func (s *said) askAhead() {
	s.meet("asks ahead as " + []string{"Follower", "Asker", "Candidate"}[s.role])
	s.role, s.lead, s.quiet, s.yes = raft.Asker, 0, 0, map[int]bool{s.n: true}
	if s.quorum() {
		s.stand()
		return
	}
	s.askAll(api.PreAsk, s.term+1)
}

func (s *said) askAll(kind int, term int64) {
	index, logTerm := s.last()
	vs := append([]int(nil), s.conf().Voters...)
	slices.Sort(vs)
	for _, v := range slices.Compact(vs) {
		if v != s.n {
			s.send(api.Msg{Kind: kind, To: v, Term: term, Index: index, LogTerm: logTerm})
		}
	}
}

func (s *said) stand() {
	s.meet("stands")
	s.term++
	s.vote, s.role, s.lead, s.quiet, s.yes = s.n, raft.Candidate, 0, 0, map[int]bool{s.n: true}
	if s.quorum() {
		s.leads()
		return
	}
	s.askAll(api.Ask, s.term)
}

func (s *said) leads() {
	s.meet("leads")
	s.role, s.lead, s.quiet = raft.Leader, s.n, 0
	s.next, s.match, s.has = map[int]int64{}, map[int]int64{}, map[int]int{}
	last, _ := s.last()
	if last < top {
		s.comes(api.Noop, nil)
	} else {
		s.meet("leads without a Noop")
	}
	s.reckon()
	s.sendAll()
}

// comes puts an entry behind the last one, unless its term falls.
func (s *said) comes(kind int, data []byte) bool {
	last, lastTerm := s.last()
	if s.term < lastTerm || s.term < 0 {
		s.meet("no entry of a term that falls")
		return false
	}
	s.es = append(s.es, copiedEntry(api.Entry{Index: last + 1, Term: s.term, Kind: kind, Data: data}))
	s.changed(last + 1)
	return true
}

func (s *said) reckon() bool {
	last, _ := s.last()
	var at []int64
	for _, v := range s.conf().Voters {
		if v == s.n {
			at = append(at, last)
		} else {
			at = append(at, s.match[v])
		}
	}
	best := int64(0)
	for _, x := range at {
		reached := 0
		for _, y := range at {
			if y >= x {
				reached++
			}
		}
		if 2*reached > len(at) {
			best = max(best, x)
		}
	}
	if best <= s.commit {
		return false
	}
	if !s.hasAt(best, s.term) {
		s.meet("commits none of an elder term")
		return false
	}
	s.meet("commits")
	s.commit = best
	return true
}

func (s *said) sendAll() {
	for _, m := range s.others() {
		s.sendTo(m)
	}
}

func (s *said) sendTo(m int) {
	if _, knows := s.next[m]; !knows {
		s.next[m], _ = s.last()
		s.match[m], s.has[m] = 0, 0
	}
	if next := s.next[m]; next > s.base {
		var es []api.Entry
		for _, e := range s.es {
			if e.Index >= next && len(es) < 8 {
				es = append(es, copiedEntry(e))
			}
		}
		if len(es) == 8 {
			s.meet("a full batch")
		}
		term, _ := s.termAt(next - 1)
		s.send(api.Msg{Kind: api.Append, To: m, Term: s.term, Index: next - 1, LogTerm: term, Commit: s.commit, Entries: es})
		return
	}
	rest := s.snap.Data[s.has[m]:]
	last := true
	if len(rest) > 64 {
		rest, last = rest[:64], false
	}
	if last {
		s.meet("the last piece")
	} else {
		s.meet("a piece")
	}
	s.send(api.Msg{Kind: api.Piece, To: m, Term: s.term, Index: s.snap.Index, LogTerm: s.snap.Term, Conf: copiedConf(s.snap.Conf), Off: int64(s.has[m]), Data: append([]byte(nil), rest...), Last: last})
}

func (s *said) propose(data []byte) (int64, api.Errno) {
	last, _ := s.last()
	switch {
	case s.role != raft.Leader:
		return 0, api.ErrLead
	case len(data) > 2048:
		return 0, api.ErrLong
	case last == top:
		return 0, api.ErrMany
	}
	return s.wish(api.Submit, data)
}

func (s *said) wish(kind int, data []byte) (int64, api.Errno) {
	// What the document doesn't name: an entry that layer 16 doesn't take is answered as by that one.
	if _, lastTerm := s.last(); s.term < 0 {
		return 0, api.ErrArg
	} else if s.term < lastTerm {
		return 0, api.ErrOrder
	}
	s.comes(kind, data)
	s.reckon()
	s.sendAll()
	last, _ := s.last()
	return last, api.OK
}

func (s *said) change(kind, m int) (int64, api.Errno) {
	c, at := s.confAt(top)
	last, _ := s.last()
	switch {
	case s.role != raft.Leader:
		return 0, api.ErrLead
	case at > s.commit:
		s.meet("busy with a change")
		return 0, api.ErrBusy
	case !s.hasAt(s.commit, s.term):
		s.meet("busy with an elder term")
		return 0, api.ErrBusy
	case kind == conf.Remove && m == s.n:
		return 0, api.ErrArg
	}
	next, code := conf.Next(c, kind, m)
	switch {
	case code != api.OK:
		return 0, code
	case kind == conf.Promote && s.match[m] < s.commit:
		s.meet("busy with one that learns")
		return 0, api.ErrBusy
	case last == top:
		return 0, api.ErrMany
	}
	s.meet([]string{"", "learns", "is promoted", "is removed"}[kind])
	if kind != conf.Promote {
		delete(s.next, m)
		delete(s.match, m)
		delete(s.has, m)
	}
	data, _ := conf.Bytes(next)
	return s.wish(api.Change, data)
}

func (s *said) compact(index int64, data []byte) api.Errno {
	if index > s.commit || index <= s.base || len(data) > 32768 {
		return api.ErrArg
	}
	s.meet("compacts")
	term, _ := s.termAt(index)
	c, _ := s.confAt(index)
	s.snap = copiedSnap(snap.Snap{Index: index, Term: term, Conf: c, Data: data})
	s.dropTo(index)
	s.has = map[int]int{}
	return api.OK
}
