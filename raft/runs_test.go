package raft_test

import (
	"bytes"
	"fmt"
	"maps"
	"math/rand/v2"
	"slices"
	"testing"

	"quillet/api"
	"quillet/conf"
	"quillet/raft"
	"quillet/snap"
)

// dice makes calls that are mostly near what there is.
type dice struct{ *rand.Rand }

func (d dice) often(n int) bool { return d.IntN(n) > 0 }

// near is a number around another one, never below 0.
func (d dice) near(n int64) int64 {
	if !d.often(40) {
		return []int64{0, 1, top - 1, top}[d.IntN(4)]
	}
	return max(0, n+d.Int64N(4)-2+d.Int64N(2))
}

func (d dice) pick(ns ...int64) int64 { return ns[d.IntN(len(ns))] }

func (d dice) data(most int) []byte {
	return bytes.Repeat([]byte{byte('a' + d.IntN(26))}, d.IntN(most+1))
}

func (d dice) conf() api.Conf {
	var c api.Conf
	for n := 1; n <= 5; n++ {
		switch d.IntN(5) {
		case 0:
		case 1:
			c.Learners = append(c.Learners, n)
		default:
			c.Voters = append(c.Voters, n)
		}
	}
	if len(c.Voters) == 0 {
		c = voters(1, 2, 3)
	}
	return c
}

// index is one of the log's, or around it.
func (d dice) index(s *said) int64 {
	last, _ := s.last()
	if d.IntN(2) == 0 {
		return d.near(d.pick(s.base, s.commit, last))
	}
	return s.base + d.Int64N(last-s.base+1)
}

// termOf is mostly the one that the log has there.
func (d dice) termOf(s *said, index int64) int64 {
	term, ok := s.termAt(index)
	if ok && d.often(6) {
		return term
	}
	return d.near(d.pick(term, s.term))
}

func (d dice) msg(s *said) api.Msg {
	m := api.Msg{Kind: 1 + d.IntN(8), From: 1 + d.IntN(5), To: s.n, Term: s.term}
	switch d.IntN(9) {
	case 0:
		m.Term++
	case 1:
		m.Term = d.near(s.term)
	}
	m.Term = max(1, m.Term)
	switch m.Kind {
	case api.PreAsk, api.Ask:
		m.Index, m.LogTerm = s.last()
		m.Index, m.LogTerm = d.pick(m.Index, d.near(m.Index)), d.pick(m.LogTerm, d.near(m.LogTerm))
		if m.Kind == api.PreAsk && d.often(3) {
			m.Term = s.term + 1
		}
	case api.PreSay, api.Say:
		m.Ok = d.often(4)
		if m.Kind == api.PreSay && m.Ok && d.often(3) {
			m.Term = s.term + 1
		}
	case api.Append:
		d.fillAppend(s, &m)
	case api.Got:
		m.Ok, m.Index = d.often(3), d.index(s)
	case api.Piece:
		d.fillPiece(s, &m)
	case api.Took:
		m.Index, m.Off, m.Last = max(1, d.pick(s.snap.Index, s.snap.Index, d.index(s))), d.Int64N(int64(len(s.snap.Data)+3)), d.IntN(4) == 0
	}
	if !d.often(60) {
		m.To = d.IntN(9)
	}
	return m
}

// fillAppend takes entries of its own log, and others behind or between.
func (d dice) fillAppend(s *said, m *api.Msg) {
	m.Index = d.index(s)
	m.LogTerm = d.termOf(s, m.Index)
	if m.Index < s.base && d.IntN(2) == 0 {
		m.LogTerm = 0
	}
	m.Commit = d.index(s)
	term := min(m.LogTerm, m.Term)
	same := d.often(3)
	for i := range d.Int64N(9) {
		index := m.Index + 1 + i
		var e api.Entry
		for _, x := range s.es {
			if x.Index == index && same {
				e = copiedEntry(x)
			}
		}
		if e.Index == 0 || !d.often(12) {
			same = false
			e = d.entry(index, max(term, min(m.Term, d.pick(term, m.Term, m.Term, d.near(term)))))
		}
		term = max(term, e.Term)
		m.Entries = append(m.Entries, e)
	}
}

func (d dice) entry(index, term int64) api.Entry {
	switch d.IntN(8) {
	case 0:
		return change(index, term, d.conf())
	case 1:
		return noop(index, term)
	case 2:
		if d.IntN(6) == 0 {
			return api.Entry{Index: index, Term: term, Kind: api.Change, Data: d.data(3)}
		}
	}
	return submit(index, term, string(d.data(20)))
}

func (d dice) fillPiece(s *said, m *api.Msg) {
	m.Index, m.Conf, m.Data, m.Last = max(1, d.index(s)+d.Int64N(3)), d.conf(), d.data(64), d.IntN(4) == 0
	m.LogTerm = min(m.Term, d.termOf(s, m.Index))
	if !d.often(100) {
		m.LogTerm = m.Term + d.Int64N(3)
	}
	if s.coming.Index > 0 && d.often(3) {
		m.Index, m.LogTerm, m.Off = s.coming.Index, s.coming.Term, int64(len(s.coming.Data))
	}
	if !d.often(8) {
		m.Off = d.near(m.Off)
	}
}

func (d dice) start() start {
	x := start{n: 1 + d.IntN(3), conf: voters(1, 2, 3)}
	if d.IntN(3) == 0 {
		x.conf = d.conf()
	}
	if d.IntN(2) == 0 {
		x.base, x.baseTerm = 1+d.Int64N(5), d.Int64N(3)
		x.snap = snap.Snap{Index: x.base, Term: x.baseTerm, Conf: x.conf, Data: d.data(200)}
	}
	if !d.often(8) {
		x.base = top - d.Int64N(12)
		x.snap.Index = x.base
	}
	x.term = x.baseTerm
	for i := range min(d.Int64N(6), top-x.base) {
		x.term += d.Int64N(2)
		x.es = append(x.es, submit(x.base+1+i, x.term, "begin"))
	}
	if !d.often(30) {
		x.term = top - d.Int64N(3)
	}
	if len(x.es) == 0 && !d.often(6) {
		// As behind a snapshot from one that was wrong.
		x.baseTerm = min(top, x.term+3+d.Int64N(9))
	}
	return x
}

// helped is a message that would bring one further who asks, stands or leads.
func (d dice) helped(s *said) (api.Msg, bool) {
	m := api.Msg{From: 1 + d.IntN(5), To: s.n, Term: s.term, Ok: true}
	switch s.role {
	case raft.Asker:
		m.Kind, m.Term = api.PreSay, s.term+1
	case raft.Candidate:
		m.Kind = api.Say
	case raft.Leader:
		m.Kind = api.Got
		m.Index, _ = s.last()
		m.Index = max(s.base, m.Index-d.Int64N(3))
	}
	return m, s.role != raft.Follower
}

// do is a call; most messages that would end a leader's time are left out, so that some lead for long.
func (d dice) do(b *both) {
	s := b.said
	switch d.IntN(12) {
	case 0:
		b.tick(1)
	case 1:
		b.tick(1 + d.IntN(20))
	case 2:
		b.propose(d.data(60))
	case 3:
		d.change(b, 8)
	case 4:
		b.compact(d.index(s), d.data(300))
	case 5, 6:
		if m, ok := d.helped(s); ok {
			b.step(m)
		}
	default:
		m := d.msg(s)
		if s.role >= raft.Asker && (m.Term > s.term && m.Kind != api.PreAsk || m.Kind == api.Append || m.Kind == api.Piece) && d.often(8) {
			return
		}
		b.step(m)
	}
}

// change is mostly one that may be, of a member up to a number.
func (d dice) change(b *both, most int) {
	c := b.said.conf()
	if len(c.Learners) > 0 && d.often(3) {
		b.change(conf.Promote, c.Learners[d.IntN(len(c.Learners))])
		return
	}
	b.change(d.IntN(5), d.IntN(most+1))
}

// words are all that said counts, but what a run can't have.
func words() []string {
	return []string{
		"sent", "beat", "no voter doesn't ask", "the last term", "asks ahead as Follower", "asks ahead as Asker", "asks ahead as Candidate", "stands", "leads", "leads without a Noop",
		"no entry of a term that falls", "commits none of an elder term", "commits", "a full batch", "the last piece", "a piece",
		"busy with a change", "busy with an elder term", "busy with one that learns", "learns", "is promoted", "is removed", "compacts",
		"no message to it", "a greater term", "PreAsk of a term that was", "Ask of an elder term", "Append of an elder term", "Piece of an elder term", "another one of an elder term",
		"PreAsk of an elder log", "PreAsk to a Leader", "PreAsk while one leads", "PreAsk of one that is quiet", "PreAsk",
		"PreSay that isn't Ok", "PreSay to none that asks", "PreSay of another term", "PreSay of no voter", "PreSay without a quorum",
		"Ask behind another vote", "Ask of an elder log", "Ask as Follower", "Ask as Asker", "Say that isn't Ok", "Say to none that stands", "Say of no voter", "Say without a quorum",
		"to a Leader", "Append of another log", "Append with what is dropped", "Append commits", "Append against what is committed", "Append of no configuration", "Append of a term that falls", "Append of what is there", "Append cuts", "Append of more",
		"Piece of what is committed", "Piece of another one", "Piece with a gap", "Piece", "the last Piece, of what is there", "the last Piece, of another log",
		"an answer to no Leader", "an answer of no member", "Got that isn't Ok", "Took of another one", "Took", "an answer beyond the log", "Got, and more to come", "Got, and nothing to come",
	}
}

// P18.1 to P18.3: long runs, in which all of the chapter's words are met.
func TestLongRuns(t *testing.T) {
	const runs = 8
	mets := make([]map[string]int, runs)
	t.Run("runs", func(t *testing.T) {
		for i := range runs {
			mets[i] = map[string]int{}
			t.Run(fmt.Sprint(i), func(t *testing.T) {
				t.Parallel()
				for seed := range 400 {
					d := dice{rand.New(rand.NewPCG(18, uint64(1000*i+seed)))}
					run(t, d, mets[i])
				}
			})
		}
	})
	met := map[string]int{}
	for _, some := range mets {
		for words, n := range some {
			met[words] += n
		}
	}
	for _, words := range words() {
		if met[words] < 50 {
			t.Errorf("met %d times alone: %s", met[words], words)
		}
	}
	known := append(words(), "not right to be sent")
	for _, words := range slices.Sorted(maps.Keys(met)) {
		if !slices.Contains(known, words) {
			t.Errorf("met, and not among the words: %s", words)
		}
	}
}

func run(t *testing.T, d dice, met map[string]int) {
	b := metBoth(t, d.start(), met)
	take := 1 + d.IntN(4)
	for range 200 {
		d.do(b)
		if d.IntN(take) == 0 {
			b.out()
		}
		if d.IntN(5) == 0 {
			b.dirty()
		}
	}
	b.out()
	b.dirty()
}
