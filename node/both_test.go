package node_test

import (
	"bytes"
	"math"
	"slices"
	"testing"

	"quillet/api"
	"quillet/cert"
	"quillet/conf"
	"quillet/disk"
	"quillet/machine"
	"quillet/msg"
	"quillet/node"
	"quillet/raft"
	"quillet/rlog"
	"quillet/snap"
	"quillet/sub"
)

// start is how a member is opened.
type start struct {
	n    int
	boot api.Conf
	c    node.Conf
}

// both is a Node on a disk, and what is said of it on another one, which has the same.
type both struct {
	t          *testing.T
	start      start
	disk, twin *disk.Disk
	node       *node.Node
	said       *said
	met        map[string]int
	kept       *kept
	looked     *machine.Machine // whose bytes were held against what is said, and its index then
	at         int64
}

// room is of which size the certifiers are.
var room = cert.Conf{Keep: 4, Old: 4}

func voters(ns ...int) api.Conf { return api.Conf{Voters: ns} }

// laid is a member whose disk isn't opened yet.
func laid(t *testing.T, x start) *both {
	return &both{t: t, start: x, disk: disk.New(), twin: disk.New(), met: map[string]int{}, kept: newKept()}
}

func newBoth(t *testing.T, x start) *both {
	t.Helper()
	b := laid(t, x)
	b.mustOpen()
	return b
}

// of is a new member of voters that compacts rarely.
func of(t *testing.T, n int, voters ...int) *both {
	t.Helper()
	return newBoth(t, start{n, api.Conf{Voters: voters}, node.Conf{Cert: room, Keep: 64}})
}

// files lays files on both disks, all safe.
func (b *both) files(fs map[string][]byte) {
	b.t.Helper()
	for name, bytes := range fs {
		for _, d := range []*disk.Disk{b.disk, b.twin} {
			if d.Create(name) != api.OK || d.Write(name, 0, bytes) != api.OK || d.Sync(name) != api.OK {
				b.t.Fatalf("no file %s", name)
			}
		}
	}
}

func (b *both) open() api.Errno {
	b.t.Helper()
	x := b.start
	got, code := node.Open(x.n, x.boot, x.c, b.disk)
	want, wantCode := saidOpen(x.n, x.boot, x.c, b.twin, b.met)
	if code != wantCode || (got == nil) != (code != api.OK) {
		b.t.Fatalf("Open(%d, %v) = %v, %d; not %d", x.n, x.boot, got != nil, code, wantCode)
	}
	b.node, b.said = got, want
	b.kept.seen = 0
	if code != api.OK {
		b.said = nil
	}
	b.told("Open")
	return code
}

func (b *both) mustOpen() {
	b.t.Helper()
	if code := b.open(); code != api.OK {
		b.t.Fatalf("Open = %d, the disk has %v", code, b.disk.Names())
	}
}

func (b *both) same(call string, got, want api.Errno) api.Errno {
	b.t.Helper()
	if got != want {
		b.t.Fatalf("%s = %d, not %d", call, got, want)
	}
	b.told(call)
	return got
}

func (b *both) tick(times int) (code api.Errno) {
	b.t.Helper()
	for range times {
		code = b.same("Tick", b.node.Tick(), b.said.tick())
	}
	return code
}

func (b *both) bytes(raw []byte) api.Errno {
	b.t.Helper()
	return b.same("Receive", b.node.Receive(raw), b.said.receive(raw))
}

// step hands in messages.
func (b *both) step(ms ...api.Msg) (code api.Errno) {
	b.t.Helper()
	for _, m := range ms {
		raw, wrong := msg.Encode(m)
		if wrong != api.OK {
			b.t.Fatalf("%v isn't right: %d", m, wrong)
		}
		b.kept.replaced(m.Entries)
		code = b.bytes(raw)
	}
	return code
}

func (b *both) change(kind, m int) api.Errno {
	b.t.Helper()
	return b.same("Change", b.node.Change(kind, m), b.said.change(kind, m))
}

func (b *both) submit(raw []byte) (api.Verdict, api.Errno) {
	b.t.Helper()
	got, code := b.node.Submit(raw)
	want, wantCode := b.said.submit(raw)
	if got != want {
		b.t.Fatalf("Submit = %v, %d; not %v, %d", got, code, want, wantCode)
	}
	return got, b.same("Submit", code, wantCode)
}

// letters takes the letters that wait, as messages.
func (b *both) letters() []api.Msg {
	b.t.Helper()
	got, want := b.node.Letters(), b.said.letters
	b.said.letters, b.kept.seen = nil, 0
	if !slices.EqualFunc(got, want, sameLetter) {
		b.t.Fatalf("the letters are\n%v, not\n%v", got, want)
	}
	var out []api.Msg
	for _, l := range got {
		m, code := msg.Decode(l.B)
		if code != api.OK || m.From != l.From || m.To != l.To || m.From != b.start.n {
			b.t.Fatalf("the letter %v is %v, %d", l, m, code)
		}
		out = append(out, m)
	}
	b.told("Letters")
	return out
}

// one is the only letter that waits.
func (b *both) one() api.Msg {
	b.t.Helper()
	out := b.letters()
	if len(out) != 1 {
		b.t.Fatalf("%d letters: %v", len(out), out)
	}
	return out[0]
}

// none asks that no letter waits.
func (b *both) none(what string) {
	b.t.Helper()
	if out := b.letters(); len(out) != 0 {
		b.t.Fatalf("%s: the letters are %v", what, out)
	}
}

func (b *both) applied() []node.Applied {
	b.t.Helper()
	got, want := b.node.Applied(), b.said.applied
	b.said.applied = nil
	if !slices.Equal(got, want) {
		b.t.Fatalf("applied is %v, not %v", got, want)
	}
	b.kept.applied(got)
	b.told("Applied")
	return got
}

func (b *both) fail(n int) {
	b.disk.Fail(n)
	b.twin.Fail(n)
}

// lose lets the power go, and come back: with some sectors, which is all that there is then.
func (b *both) lose(keep []bool) {
	b.t.Helper()
	b.disk.Crash(keep)
	b.twin.Crash(keep)
	sameDisks(b.t, "Crash", b.disk, b.twin)
}

func sameLetter(a, b node.Letter) bool {
	return a.From == b.From && a.To == b.To && bytes.Equal(a.B, b.B)
}

func sameEntry(a, b api.Entry) bool {
	return a.Index == b.Index && a.Term == b.Term && a.Kind == b.Kind && bytes.Equal(a.Data, b.Data)
}

func sameConf(a, b api.Conf) bool {
	return slices.Equal(a.Voters, b.Voters) && slices.Equal(a.Learners, b.Learners)
}

func sameSnap(a, b snap.Snap) bool {
	return a.Index == b.Index && a.Term == b.Term && sameConf(a.Conf, b.Conf) && bytes.Equal(a.Data, b.Data)
}

func sameDisks(t *testing.T, behind string, d, twin *disk.Disk) {
	t.Helper()
	if d.Down() != twin.Down() || d.Loose() != twin.Loose() || !slices.Equal(d.Names(), twin.Names()) {
		t.Fatalf("behind %s: the disk is down: %v, has %d loose, and %v; not %v, %d, %v", behind, d.Down(), d.Loose(), d.Names(), twin.Down(), twin.Loose(), twin.Names())
	}
	for _, name := range d.Names() {
		got, _ := d.Read(name)
		want, _ := twin.Read(name)
		if !bytes.Equal(got, want) {
			t.Fatalf("behind %s: %s has %v, not %v", behind, name, got, want)
		}
	}
}

// told holds all that is told, but for what telling takes away, and the disk, against what is said.
func (b *both) told(behind string) {
	b.t.Helper()
	sameDisks(b.t, behind, b.disk, b.twin)
	if b.node == nil {
		return
	}
	if b.node.Down() != b.said.down {
		b.t.Fatalf("behind %s: it is down: %v", behind, b.node.Down())
	}
	sameCores(b.t, behind, b.node.Core(), b.said.core)
	// Behind an Open it is first asked for what is to be there.
	if behind != "Open" {
		b.kept.look(b.said.letters, b.said.core, b.said.down)
	}
	b.toldMachine(behind)
}

// toldMachine asks for all bytes only where something may have changed them: that takes long.
func (b *both) toldMachine(behind string) {
	b.t.Helper()
	got, want := b.node.Machine(), b.said.machine
	if got.Index() != want.Index() || got.Count() != want.Count() {
		b.t.Fatalf("behind %s: the Machine is at %d with %d, not at %d with %d", behind, got.Index(), got.Count(), want.Index(), want.Count())
	}
	if got == b.looked && got.Index() == b.at {
		return
	}
	if !bytes.Equal(got.Bytes(), want.Bytes()) {
		b.t.Fatalf("behind %s: the Machine's bytes are %v, not %v", behind, got.Bytes(), want.Bytes())
	}
	b.looked, b.at = got, got.Index()
}

func sameCores(t *testing.T, behind string, c, s *raft.Core) {
	t.Helper()
	if c.Term() != s.Term() || c.Vote() != s.Vote() || c.Role() != s.Role() || c.Lead() != s.Lead() || c.Commit() != s.Commit() {
		t.Fatalf("behind %s: term %d, vote %d, role %d, lead %d, commit %d; not %d, %d, %d, %d, %d", behind, c.Term(), c.Vote(), c.Role(), c.Lead(), c.Commit(), s.Term(), s.Vote(), s.Role(), s.Lead(), s.Commit())
	}
	for m := 1; m <= api.MaxNode; m++ {
		if c.Match(m) != s.Match(m) {
			t.Fatalf("behind %s: Match(%d) = %d, not %d", behind, m, c.Match(m), s.Match(m))
		}
	}
	if !sameSnap(c.Snap(), s.Snap()) {
		t.Fatalf("behind %s: the snapshot is %v, not %v", behind, c.Snap(), s.Snap())
	}
	sameLogs(t, behind, c.Log(), s.Log())
}

func sameLogs(t *testing.T, behind string, l, s *rlog.Log) {
	t.Helper()
	base, term := l.Base()
	wantBase, wantTerm := s.Base()
	if base != wantBase || term != wantTerm || !sameConf(l.ConfAt(base), s.ConfAt(base)) {
		t.Fatalf("behind %s: the base is %d, %d, %v; not %d, %d, %v", behind, base, term, l.ConfAt(base), wantBase, wantTerm, s.ConfAt(base))
	}
	if got, want := l.Entries(0, math.MaxInt), s.Entries(0, math.MaxInt); !slices.EqualFunc(got, want, sameEntry) {
		t.Fatalf("behind %s: the entries are %v, not %v", behind, got, want)
	}
}

// asked is a submission's bytes: it writes a key.
func asked(session, seq, snap int64, keys ...float64) []byte {
	b, code := sub.Encode(api.Sub{Session: session, Seq: seq, Snap: snap, Writes: keys})
	if code != api.OK {
		panic("no submission")
	}
	return b
}

func noop(index, term int64) api.Entry { return api.Entry{Index: index, Term: term} }

func submitted(index, term int64, data []byte) api.Entry {
	return api.Entry{Index: index, Term: term, Kind: api.Submit, Data: data}
}

func changed(index, term int64, c api.Conf) api.Entry {
	b, code := conf.Bytes(c)
	if code != api.OK {
		panic("no right configuration")
	}
	return api.Entry{Index: index, Term: term, Kind: api.Change, Data: b}
}

// some are as many entries that follow, of a term.
func some(from int64, many int, term int64) []api.Entry {
	var out []api.Entry
	for i := range int64(many) {
		out = append(out, submitted(from+i, term, asked(1+term, from+i, 0, float64(from+i))))
	}
	return out
}

// appended is an Append from 1 to 2.
func appended(term, index, logTerm, commit int64, es ...api.Entry) api.Msg {
	return api.Msg{Kind: api.Append, From: 1, To: 2, Term: term, Index: index, LogTerm: logTerm, Commit: commit, Entries: es}
}

// pieces are the messages from 1 to 2 that bring a snapshot.
func pieces(term int64, s snap.Snap) []api.Msg {
	var out []api.Msg
	for off := 0; ; off += api.Chunk {
		end := min(off+api.Chunk, len(s.Data))
		out = append(out, api.Msg{Kind: api.Piece, From: 1, To: 2, Term: term, Index: s.Index, LogTerm: s.Term, Conf: s.Conf, Off: int64(off), Data: s.Data[off:end], Last: end == len(s.Data)})
		if end == len(s.Data) {
			return out
		}
	}
}

// state is the bytes of a Machine that has decided so many submissions.
func state(many int64) []byte {
	m := machine.New(room)
	for i := range many {
		m.Apply(submitted(i+1, 1, asked(9, i+1, 0, float64(-i-1))))
	}
	return m.Bytes()
}

// elect makes a member lead by the yes of some, and takes away what it sends meanwhile.
func (b *both) elect(who ...int) {
	b.t.Helper()
	for range 100 {
		if b.node.Core().Role() == raft.Asker {
			break
		}
		b.tick(1)
	}
	for _, m := range who {
		b.step(api.Msg{Kind: api.PreSay, From: m, To: b.start.n, Term: b.node.Core().Term() + 1, Ok: true})
	}
	for _, m := range who {
		b.step(api.Msg{Kind: api.Say, From: m, To: b.start.n, Term: b.node.Core().Term(), Ok: true})
	}
	if b.node.Core().Role() != raft.Leader {
		b.t.Fatalf("no Leader by %v", who)
	}
	b.letters()
}

// got is that one has all up to an index.
func (b *both) got(from int, index int64) {
	b.t.Helper()
	b.step(api.Msg{Kind: api.Got, From: from, To: b.start.n, Term: b.node.Core().Term(), Index: index, Ok: true})
}
