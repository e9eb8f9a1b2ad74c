package node_test

import (
	"fmt"
	"maps"
	"math"
	"math/rand/v2"
	"slices"
	"testing"

	"quillet/api"
	"quillet/cert"
	"quillet/conf"
	"quillet/node"
	"quillet/raft"
	"quillet/snap"
)

// dice makes calls that are mostly near what there is.
type dice struct{ *rand.Rand }

func (d dice) often(n int) bool { return d.IntN(n) > 0 }

func (d dice) pick(ns ...int64) int64 { return ns[d.IntN(len(ns))] }

// near is a number around another one, from 0 to MaxNumber.
func (d dice) near(n int64) int64 { return max(0, min(api.MaxNumber, n+d.Int64N(5)-2)) }

// index is one of the log's, or around it.
func (d dice) index(c *raft.Core) int64 {
	base, _ := c.Log().Base()
	last, _ := c.Log().Last()
	if d.IntN(2) == 0 {
		return d.near(d.pick(base, c.Commit(), last, last))
	}
	return base + d.Int64N(last-base+1)
}

func (d dice) termOf(c *raft.Core, index int64) int64 {
	term, ok := c.Log().Term(index)
	if ok && d.often(6) {
		return term
	}
	return d.near(d.pick(term, c.Term()))
}

func (d dice) conf() api.Conf {
	var c api.Conf
	for n := 1; n <= 4; n++ {
		switch d.IntN(6) {
		case 0:
		case 1:
			c.Learners = append(c.Learners, n)
		default:
			c.Voters = append(c.Voters, n)
		}
	}
	if len(c.Voters) == 0 {
		c = voters(1, 2, 3)
	}
	return c
}

// asks is a submission's bytes; the numbers are few, so that some come twice.
func (d dice) asks(count int64) []byte {
	keys := []float64{float64(d.IntN(5))}
	if d.IntN(3) == 0 {
		keys = append(keys, 9, 10, 11)
	}
	return asked(1+d.Int64N(3), 1+d.Int64N(24), max(0, count-d.Int64N(3)), keys...)
}

func (d dice) entry(index, term int64) api.Entry {
	switch d.IntN(9) {
	case 0:
		return changed(index, term, d.conf())
	case 1:
		return noop(index, term)
	case 2:
		return api.Entry{Index: index, Term: term, Kind: d.IntN(2), Data: make([]byte, d.IntN(900))}
	}
	return submitted(index, term, d.asks(2))
}

func (d dice) msg(b *both) api.Msg {
	c := b.said.core
	m := api.Msg{Kind: 1 + d.IntN(8), From: 1 + d.IntN(4), To: b.start.n, Term: c.Term()}
	switch d.IntN(9) {
	case 0:
		m.Term++
	case 1:
		m.Term = d.near(c.Term())
	}
	m.Term = max(1, min(m.Term, api.MaxNumber))
	last, lastTerm := c.Log().Last()
	switch m.Kind {
	case api.PreAsk, api.Ask:
		m.Index, m.LogTerm = d.pick(last, d.near(last)), d.pick(lastTerm, d.near(lastTerm))
	case api.PreSay, api.Say:
		m.Ok = d.often(4)
	case api.Append:
		d.fillAppend(c, &m)
	case api.Got:
		m.Ok, m.Index = d.often(3), d.index(c)
	case api.Took:
		m.Index, m.Off, m.Last = max(1, d.pick(c.Snap().Index, d.index(c))), d.Int64N(300), d.IntN(4) == 0
	}
	return m
}

// fillAppend takes entries of its own log, and others behind or between.
func (d dice) fillAppend(c *raft.Core, m *api.Msg) {
	m.Index = d.index(c)
	m.LogTerm = min(m.Term, d.termOf(c, m.Index))
	m.Commit = d.index(c)
	term, same := m.LogTerm, d.often(3)
	for i := range min(d.Int64N(5), api.MaxNumber-m.Index) {
		index := m.Index + 1 + i
		there := c.Log().Entries(index, 1)
		if same = same && d.often(12) && len(there) > 0 && there[0].Index == index && there[0].Term >= term && there[0].Term <= m.Term; same {
			m.Entries = append(m.Entries, there[0])
			term = there[0].Term
			continue
		}
		term = max(term, min(m.Term, d.pick(term, m.Term)))
		m.Entries = append(m.Entries, d.entry(index, term))
	}
}

// brought are the pieces of a snapshot; few of none's Data, since that is the end.
func (d dice) brought(b *both) []api.Msg {
	c := b.said.core
	s := snap.Snap{Index: max(1, d.index(c)), Conf: d.conf(), Data: state(d.Int64N(6))}
	s.Term = d.termOf(c, s.Index)
	if !d.often(20) {
		s.Data = []byte("none's")
	}
	ms := pieces(max(1, c.Term()), s)
	for i := range ms {
		ms[i].To = b.start.n
		ms[i].From = 1 + b.start.n%3
	}
	return ms
}

// helped is a message that would bring one further who asks, stands or leads.
func (d dice) helped(b *both) (api.Msg, bool) {
	c := b.said.core
	m := api.Msg{From: 1 + d.IntN(4), To: b.start.n, Term: c.Term(), Ok: true}
	switch c.Role() {
	case raft.Asker:
		m.Kind, m.Term = api.PreSay, c.Term()+1
	case raft.Candidate:
		m.Kind = api.Say
	case raft.Leader:
		m.Kind = api.Got
		m.Index, _ = c.Log().Last()
	}
	return m, c.Role() != raft.Follower && m.From != m.To
}

// start lays a disk that has something, mostly what may be.
func (d dice) start(t *testing.T, met map[string]int) *both {
	x := start{1 + d.IntN(3), voters(1, 2, 3), node.Conf{Cert: cert.Conf{Keep: 4 + d.IntN(3), Old: 4}, Keep: []int{1, 2, 5, 64}[d.IntN(4)]}}
	if d.IntN(3) == 0 {
		x.boot = d.conf()
	}
	b := laid(t, x)
	b.met = met
	if d.IntN(2) == 0 {
		b.files(hardFile(d.Int64N(4), d.IntN(8)))
	}
	base := int64(0)
	if d.IntN(2) == 0 {
		base = d.pick(1, 4, 9, api.MaxNumber-9)
		b.files(snapFile(snap.Snap{Index: base, Term: d.Int64N(3), Conf: d.conf(), Data: state(d.Int64N(5))}))
	}
	if d.IntN(2) == 0 {
		first := max(1, d.pick(base+1, base+1, base, base-2, base+2, 1))
		var es []api.Entry
		for i := range 1 + d.Int64N(9) {
			es = append(es, d.entry(first+i, d.pick(1, 2, 2, 3)))
		}
		slices.SortFunc(es, func(a, b api.Entry) int { return int(a.Term - b.Term) })
		for i := range es {
			es[i].Index = first + int64(i)
		}
		if !d.often(8) {
			es[0].Term = 9
		}
		b.files(walFiles(es...))
	}
	if b.open() != api.OK {
		met["begins anew"]++
		return newMet(t, x, met)
	}
	return b
}

func newMet(t *testing.T, x start, met map[string]int) *both {
	b := laid(t, x)
	b.met = met
	b.mustOpen()
	return b
}

// keep is a choice of the sectors that are kept.
func (d dice) keep(loose int) []bool {
	out := make([]bool, d.IntN(loose+2))
	for i := range out {
		out[i] = d.IntN(2) == 0
	}
	return out
}

// power lets the power go; it tells how the member goes on.
func (d dice) power(b *both) *both {
	b.letters()
	b.applied()
	was := b.node.Core()
	b.lose(d.keep(b.disk.Loose()))
	whole := newest(b.disk)
	if d.IntN(3) == 0 {
		b.fail(1 + d.IntN(4))
	}
	code := b.open()
	if code == api.ErrDown {
		b.lose(d.keep(b.disk.Loose()))
		code = b.open()
	}
	b.fail(0)
	if code != api.OK {
		b.noneCame(was)
		b.met["begins anew"]++
		return newMet(b.t, b.start, b.met)
	}
	b.safe(was, whole)
	return b
}

// noneCame asks that a disk that can't be opened has a snapshot of none's Data that has come.
func (b *both) noneCame(was *raft.Core) {
	b.t.Helper()
	if string(was.Snap().Data) != "none's" {
		b.t.Fatalf("it can't be opened again: %v", b.disk.Names())
	}
}

// do is a call; most messages that would end a leader's time are left out, so that some lead for long.
func (d dice) do(b *both) {
	c := b.said.core
	switch d.IntN(17) {
	case 0:
		b.tick(1)
	case 1:
		b.tick(1 + d.IntN(20))
	case 2, 3, 4:
		raw := d.asks(b.said.machine.Count())
		for range 1 + d.IntN(2) {
			b.submit(raw)
		}
	case 5:
		b.change(d.IntN(5), d.IntN(6))
	case 6, 7, 8, 9, 10:
		if m, ok := d.helped(b); ok {
			b.step(m)
		}
	case 11:
		if d.IntN(3) == 0 && (c.Role() < raft.Asker || !d.often(6)) {
			b.step(d.brought(b)...)
		}
	case 12:
		raw := make([]byte, d.IntN(40))
		for i := range raw {
			raw[i] = byte(d.IntN(5))
		}
		b.bytes(raw)
		b.submit(raw)
	default:
		m := d.msg(b)
		leads := c.Role() >= raft.Asker && (m.Term > c.Term() && m.Kind != api.PreAsk || m.Kind == api.Append) && d.often(12)
		if m.From != m.To && m.Kind != api.Piece && !leads {
			b.step(m)
		}
	}
}

// words are all that said counts, but what can't be, or what a run has rarely.
func words() []string {
	return []string{
		"Open: no entries", "Open: no snapshot, entries from 1 on", "Open: no snapshot, Reset", "Open: the Wal has the snapshot's entry", "Open: the Wal begins behind the snapshot", "Open: a snapshot, Reset", "Open: no log", "Open: no Machine",
		"Open without a Wal", "down: 1", "down: 2, Put", "down: 2, CutFrom", "down: 2, Append", "down: 2, Sync", "down: 5, Put", "down: 5, DropTo", "down: 2, none's Data",
		"a snapshot, DropTo", "a snapshot, Reset", "entries", "a letter", "applied", "compacts", "no message", "no submission",
		"Submit: decided", "Submit: a verdict with Look's error", "Submit: not the Leader", "Submit: under way", "Submit: Propose's error", "Submit: proposed",
	}
}

// P20.1, P20.2: long runs with losses of power, in which the chapter's words are met.
func TestLongRuns(t *testing.T) {
	const runs = 8
	mets := make([]map[string]int, runs)
	t.Run("runs", func(t *testing.T) {
		for i := range runs {
			mets[i] = map[string]int{}
			t.Run(fmt.Sprint(i), func(t *testing.T) {
				t.Parallel()
				for seed := range 150 {
					longRun(t, dice{rand.New(rand.NewPCG(20, uint64(1000*i+seed)))}, mets[i])
				}
			})
		}
	})
	met := map[string]int{}
	for _, some := range mets {
		for words, n := range some {
			met[words] += n
		}
	}
	for _, words := range words() {
		if met[words] < 5 {
			t.Errorf("met %d times alone: %s", met[words], words)
		}
	}
	known := append(words(), "begins anew", "a message without bytes", "Open without a Hard", "Open without a Store", "Open without a Reset", "down: 2, DropTo", "down: 2, Reset")
	for _, words := range slices.Sorted(maps.Keys(met)) {
		if !slices.Contains(known, words) {
			t.Errorf("met, and not among the words: %s", words)
		}
	}
}

func longRun(t *testing.T, d dice, met map[string]int) {
	b := d.start(t, met)
	take := 1 + d.IntN(4)
	for range 150 {
		if d.IntN(15) == 0 {
			b.fail(d.IntN(12))
		}
		d.do(b)
		if d.IntN(take) == 0 {
			b.letters()
		}
		if d.IntN(take) == 0 {
			b.applied()
		}
		if b.node.Down() && d.often(3) || d.IntN(40) == 0 {
			b = d.power(b)
		}
	}
	b.letters()
	b.applied()
	if es := b.node.Core().Log().Entries(0, math.MaxInt); len(es) > 0 {
		met["entries"]++
	}
}

// P20.1: a change that is asked for in a run is answered by the rules of layer 15.
func TestChangesInTurn(t *testing.T) {
	b := of(t, 1, 1)
	b.tick(12)
	for m := 2; m <= 7; m++ {
		if b.change(conf.Learn, m) != api.OK {
			t.Fatalf("%d doesn't learn", m)
		}
		b.letters()
	}
	for m := 2; m <= 7; m++ {
		if b.change(conf.Remove, m) != api.OK {
			t.Fatalf("%d isn't removed", m)
		}
	}
	b.crash(nil)
	if c, at := b.node.Core().Log().Conf(); !sameConf(c, voters(1)) || at != 13 {
		t.Errorf("kept is %v at %d", c, at)
	}
}
