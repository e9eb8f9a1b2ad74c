package node_test

import (
	"bytes"
	"math"

	"quillet/api"
	"quillet/conf"
	"quillet/disk"
	"quillet/hard"
	"quillet/machine"
	"quillet/msg"
	"quillet/node"
	"quillet/raft"
	"quillet/rlog"
	"quillet/snap"
	"quillet/sub"
	"quillet/wal"
)

// said is a member with its disk by the document's words, in their order.
type said struct {
	n       int
	c       node.Conf
	hard    *hard.Hard
	store   *snap.Store
	wal     *wal.Wal
	core    *raft.Core
	machine *machine.Machine
	letters []node.Letter
	applied []node.Applied
	down    bool
	met     map[string]int // how often which words were met
}

// has tells whether entries have one of an index with a term.
func has(es []api.Entry, index, term int64) bool {
	for _, e := range es {
		if e.Index == index && e.Term == term {
			return true
		}
	}
	return false
}

func saidOpen(n int, boot api.Conf, c node.Conf, d *disk.Disk, met map[string]int) (*said, api.Errno) {
	if n < 1 || n > 7 || !conf.Right(boot) {
		return nil, 1
	}
	if c.Keep < 1 {
		c.Keep = 1
	}
	if c.Keep > 64 {
		c.Keep = 64
	}
	s := &said{n: n, c: c, met: met}
	var code api.Errno
	if s.hard, code = hard.Open(d); code != 0 {
		met["Open without a Hard"]++
		return nil, code
	}
	if s.store, code = snap.Open(d); code != 0 {
		met["Open without a Store"]++
		return nil, code
	}
	if s.wal, code = wal.Open(d); code != 0 {
		met["Open without a Wal"]++
		return nil, code
	}
	if code := s.openWal(); code != 0 {
		met["Open without a Reset"]++
		return nil, code
	}
	return s, s.openLog(boot)
}

// openWal is when the Wal is Reset.
func (s *said) openWal() api.Errno {
	es := s.wal.Entries()
	last, ok := s.store.Last()
	switch {
	case len(es) == 0:
		s.met["Open: no entries"]++
	case !ok && es[0].Index == 1:
		s.met["Open: no snapshot, entries from 1 on"]++
	case !ok:
		s.met["Open: no snapshot, Reset"]++
		return s.wal.Reset()
	case has(es, last.Index, last.Term):
		s.met["Open: the Wal has the snapshot's entry"]++
	case es[0].Index == last.Index+1:
		s.met["Open: the Wal begins behind the snapshot"]++
	default:
		s.met["Open: a snapshot, Reset"]++
		return s.wal.Reset()
	}
	return 0
}

func (s *said) openLog(boot api.Conf) api.Errno {
	last, ok := s.store.Last()
	l := rlog.New(0, 0, boot)
	s.machine = machine.New(s.c.Cert)
	if ok {
		l = rlog.New(last.Index, last.Term, last.Conf)
	}
	for _, e := range s.wal.Entries() {
		if e.Index > last.Index && l.Append(e) != 0 {
			s.met["Open: no log"]++
			return 30
		}
	}
	if ok {
		var code api.Errno
		if s.machine, code = machine.Load(s.c.Cert, last.Index, last.Data); code != 0 {
			s.met["Open: no Machine"]++
			return 30
		}
	}
	s.core = raft.New(s.n, s.hard.Term(), s.hard.Vote(), l, last)
	return 0
}

// settles is the five steps.
func (s *said) settles() api.Errno {
	fails := func(step string) api.Errno {
		s.met["down: "+step]++
		s.down = true
		return 50
	}
	// 1.
	if s.hard.Save(s.core.Term(), s.core.Vote()) != 0 {
		return fails("1")
	}
	// 2.
	from, whole := s.core.Dirty()
	if whole {
		x := s.core.Snap()
		if s.store.Put(x) != 0 {
			return fails("2, Put")
		}
		if has(s.wal.Entries(), x.Index, x.Term) {
			s.met["a snapshot, DropTo"]++
			if s.wal.DropTo(x.Index) != 0 {
				return fails("2, DropTo")
			}
		} else {
			s.met["a snapshot, Reset"]++
			if s.wal.Reset() != 0 {
				return fails("2, Reset")
			}
		}
		m, code := machine.Load(s.c.Cert, x.Index, x.Data)
		if code != 0 {
			return fails("2, none's Data")
		}
		s.machine = m
	}
	if from != 0 {
		s.met["entries"]++
		if base, _ := s.core.Log().Base(); from < base+1 {
			s.met["entries below the base"]++
			from = base + 1
		}
		if s.wal.CutFrom(from) != 0 {
			return fails("2, CutFrom")
		}
		if s.wal.Append(s.core.Log().Entries(from, math.MaxInt)...) != 0 {
			return fails("2, Append")
		}
		if s.wal.Sync() != 0 {
			return fails("2, Sync")
		}
	}
	return s.settlesOn(fails)
}

func (s *said) settlesOn(fails func(string) api.Errno) api.Errno {
	// 3.
	for _, m := range s.core.Out() {
		b, code := msg.Encode(m)
		if code != 0 {
			s.met["a message without bytes"]++
			continue
		}
		s.met["a letter"]++
		s.letters = append(s.letters, node.Letter{From: m.From, To: m.To, B: b})
	}
	// 4.
	for s.machine.Index() < s.core.Commit() {
		e := s.core.Log().Entries(s.machine.Index()+1, 1)[0]
		a, code := s.machine.Apply(e)
		if code != 0 {
			return fails("4")
		}
		s.met["applied"]++
		s.applied = append(s.applied, node.Applied{Index: e.Index, Answer: a})
	}
	// 5.
	if base, _ := s.core.Log().Base(); s.machine.Index() >= base+int64(s.c.Keep) {
		s.met["compacts"]++
		if s.core.Compact(s.machine.Index(), s.machine.Bytes()) != 0 {
			return fails("5, Compact")
		}
		if s.store.Put(s.core.Snap()) != 0 {
			return fails("5, Put")
		}
		if s.wal.DropTo(s.core.Snap().Index) != 0 {
			return fails("5, DropTo")
		}
	}
	return 0
}

func (s *said) tick() api.Errno {
	if s.down {
		return 50
	}
	s.core.Tick()
	return s.settles()
}

func (s *said) receive(b []byte) api.Errno {
	if s.down {
		return 50
	}
	m, code := msg.Decode(b)
	if code != 0 {
		s.met["no message"]++
		return 30
	}
	s.core.Step(m)
	return s.settles()
}

func (s *said) change(kind, m int) api.Errno {
	if s.down {
		return 50
	}
	_, code := s.core.Change(kind, m)
	if s.settles() != 0 {
		return 50
	}
	return code
}

func (s *said) submit(b []byte) (api.Verdict, api.Errno) {
	if s.down {
		return api.Verdict{}, 50
	}
	x, code := sub.Decode(b)
	if code != 0 {
		s.met["no submission"]++
		return api.Verdict{}, 30
	}
	v, code := s.machine.Look(x.Session, x.Seq)
	if code == 5 {
		s.met["Submit: decided"]++
		return v, 0
	}
	if code != 0 {
		s.met["Submit: a verdict with Look's error"]++
		return api.Verdict{Code: code}, 0
	}
	if s.core.Role() != 3 {
		s.met["Submit: not the Leader"]++
		return api.Verdict{}, 180
	}
	for _, e := range s.core.Log().Entries(0, math.MaxInt) {
		if e.Index > s.machine.Index() && bytes.Equal(e.Data, b) {
			s.met["Submit: under way"]++
			return api.Verdict{}, 181
		}
	}
	if _, code := s.core.Propose(b); code != 0 {
		s.met["Submit: Propose's error"]++
		return api.Verdict{}, code
	}
	s.met["Submit: proposed"]++
	if s.settles() != 0 {
		return api.Verdict{}, 50
	}
	return api.Verdict{}, 181
}
