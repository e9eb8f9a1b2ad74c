package node_test

import (
	"fmt"
	"maps"
	"math"
	"slices"
	"strings"
	"testing"

	"quillet/api"
	"quillet/disk"
	"quillet/hard"
	"quillet/node"
	"quillet/snap"
	"quillet/wal"
)

// filesOf are the files of a disk.
func filesOf(d *disk.Disk) map[string][]byte {
	out := map[string][]byte{}
	for _, name := range d.Names() {
		out[name], _ = d.Read(name)
	}
	return out
}

// walFiles are those of a Wal with entries.
func walFiles(es ...api.Entry) map[string][]byte {
	d := disk.New()
	w, _ := wal.Open(d)
	if w.Append(es...) != api.OK {
		panic("no Wal")
	}
	return filesOf(d)
}

func hardFile(term int64, vote int) map[string][]byte {
	d := disk.New()
	h, _ := hard.Open(d)
	if h.Save(term, vote) != api.OK {
		panic("no Hard")
	}
	return filesOf(d)
}

func snapFile(s snap.Snap) map[string][]byte {
	b, code := snap.Bytes(s)
	if code != api.OK {
		panic("no snapshot")
	}
	return map[string][]byte{fmt.Sprintf("s%015d", s.Index): b}
}

// of5 is a snapshot of index 5.
func of5(term int64) snap.Snap {
	return snap.Snap{Index: 5, Term: term, Conf: api.Conf{Voters: []int{1, 2, 4}, Learners: []int{6}}, Data: state(3)}
}

// run are entries from one index to another, of a term.
func run(from, to, term int64) []api.Entry { return some(from, int(to-from)+1, term) }

// all puts lists of entries one behind the other.
func all(ess ...[]api.Entry) []api.Entry { return slices.Concat(ess...) }

type opened struct {
	what  string
	snap  *snap.Snap
	es    []api.Entry
	code  api.Errno
	from  int64 // the log's first entry and its last one; 0: none
	to    int64
	reset bool
}

func openings() []opened {
	five := of5(2)
	none := snap.Snap{Index: 5, Term: 2, Data: []byte("none's")}
	bad := api.Entry{Index: 3, Term: 1, Kind: api.Change, Data: []byte("none")}
	return []opened{
		{what: "nothing"},
		{what: "entries from 1 on", es: run(1, 9, 1), from: 1, to: 9},
		{what: "one entry", es: run(1, 1, 1), from: 1, to: 1},
		{what: "entries from 2 on", es: run(2, 9, 1), reset: true},
		{what: "an entry at the end", es: []api.Entry{noop(api.MaxNumber, 1)}, reset: true},
		{what: "terms that rise", es: all(run(1, 3, 0), run(4, 5, 7)), from: 1, to: 5},
		{what: "a term that falls", es: all(run(1, 3, 2), run(4, 5, 1)), code: api.ErrForm},
		{what: "a configuration that isn't right", es: all(run(1, 2, 1), []api.Entry{bad}), code: api.ErrForm},
		{what: "a configuration that isn't right, at no place", es: []api.Entry{bad}, reset: true},
		{what: "a snapshot", snap: &five},
		{what: "a snapshot, its entry last", snap: &five, es: run(1, 5, 2)},
		{what: "a snapshot, its entry alone", snap: &five, es: run(5, 5, 2)},
		{what: "a snapshot, its entry first", snap: &five, es: run(5, 9, 2), from: 6, to: 9},
		{what: "a snapshot, its entry in the midst", snap: &five, es: all(run(3, 7, 2), run(8, 12, 3)), from: 6, to: 12},
		{what: "a snapshot, entries behind", snap: &five, es: run(6, 9, 2), from: 6, to: 9},
		{what: "a snapshot, entries behind of a later term", snap: &five, es: run(6, 9, 8), from: 6, to: 9},
		{what: "a snapshot, entries behind of an elder term", snap: &five, es: run(6, 9, 1), code: api.ErrForm},
		{what: "a snapshot, a gap", snap: &five, es: run(7, 9, 2), reset: true},
		{what: "a snapshot, entries ahead", snap: &five, es: run(1, 4, 2), reset: true},
		{what: "a snapshot, an entry of another term", snap: &five, es: all(run(1, 4, 1), run(5, 9, 3)), reset: true},
		{what: "a snapshot, an entry of an elder term", snap: &five, es: run(1, 9, 1), reset: true},
		{what: "a snapshot, the term at another index", snap: &five, es: all(run(1, 5, 1), run(6, 9, 2)), reset: true},
		{what: "a snapshot, what is wrong ahead of it", snap: &five, es: all(run(1, 2, 1), []api.Entry{bad}, run(4, 4, 0), run(5, 6, 2)), from: 6, to: 6},
		{what: "a snapshot, a wrong one behind", snap: &five, es: all(run(5, 7, 2), []api.Entry{{Index: 8, Term: 2, Kind: api.Change}}), code: api.ErrForm},
		{what: "a snapshot of none's Data", snap: &none, code: api.ErrForm},
		{what: "a snapshot of none's Data, its entry", snap: &none, es: run(5, 5, 2), code: api.ErrForm},
		{what: "a snapshot of none's Data, a gap", snap: &none, es: run(7, 9, 2), code: api.ErrForm, reset: true},
	}
}

// P20.1: what Open makes of what is kept: whether the Wal is Reset, the log, the Core and the Machine.
func TestOpen(t *testing.T) {
	boot := voters(1, 2, 3)
	for _, x := range openings() {
		t.Run(x.what, func(t *testing.T) {
			b := laid(t, start{2, boot, node.Conf{Cert: room, Keep: 9}})
			b.files(hardFile(9, 4))
			if len(x.es) > 0 {
				b.files(walFiles(x.es...))
			}
			base := snap.Snap{Conf: boot}
			if x.snap != nil {
				base = *x.snap
				b.files(snapFile(base))
			}
			names := slices.DeleteFunc(b.disk.Names(), func(name string) bool { return x.reset && name[0] == 'w' })
			if code := b.open(); code != x.code || !slices.Equal(b.disk.Names(), names) {
				t.Fatalf("Open = %d, the disk has %v", code, b.disk.Names())
			}
			if x.code != api.OK {
				return
			}
			b.is(base, x)
		})
	}
}

// is asks for what was opened.
func (b *both) is(base snap.Snap, x opened) {
	b.t.Helper()
	c, l := b.node.Core(), b.node.Core().Log()
	index, term := l.Base()
	if index != base.Index || term != base.Term || !sameConf(l.ConfAt(index), base.Conf) || c.Commit() != base.Index {
		b.t.Errorf("the base is %d, %d, %v; commit %d", index, term, l.ConfAt(index), c.Commit())
	}
	es := l.Entries(0, math.MaxInt)
	if x.from == 0 && len(es) > 0 || x.from > 0 && (len(es) == 0 || es[0].Index != x.from || es[len(es)-1].Index != x.to) {
		b.t.Errorf("the log has %v", es)
	}
	if c.Term() != 9 || c.Vote() != 4 || c.Lead() != 0 || b.node.Down() {
		b.t.Errorf("term %d, vote %d", c.Term(), c.Vote())
	}
	if x.snap != nil && !sameSnap(c.Snap(), base) || x.snap == nil && c.Snap().Index != 0 {
		b.t.Errorf("the snapshot is %v", c.Snap())
	}
	m := b.node.Machine()
	if count := map[bool]int64{true: 3}[x.snap != nil]; m.Index() != base.Index || m.Count() != count {
		b.t.Errorf("the Machine is at %d, with %d", m.Index(), m.Count())
	}
	b.none("opened")
	if len(b.applied()) != 0 {
		b.t.Error("applied is something")
	}
}

// P20.1: what was opened goes on: it takes entries, applies, compacts, and is opened again.
func TestOpenedGoesOn(t *testing.T) {
	for _, x := range openings() {
		if x.code != api.OK {
			continue
		}
		t.Run(x.what, func(t *testing.T) {
			b := laid(t, start{2, voters(1, 2, 3), node.Conf{Cert: room, Keep: 3}})
			if len(x.es) > 0 {
				b.files(walFiles(x.es...))
			}
			if x.snap != nil {
				b.files(snapFile(*x.snap))
			}
			b.mustOpen()
			for i := range int64(5) {
				last, term := b.node.Core().Log().Last()
				b.step(appended(10+i, last, term, max(0, last-1+i%3), run(last+1, last+2, 10+i)...))
				b.letters()
				b.crash(nil)
			}
			if b.node.Machine().Index() == 0 {
				t.Error("nothing was compacted")
			}
		})
	}
}

// P20.1: other files are left alone, and wrong ones of its own are as the layers below take them.
func TestOpenOtherFiles(t *testing.T) {
	b := laid(t, start{2, voters(2), node.Conf{}})
	b.files(map[string][]byte{"x": []byte("x"), "hard": []byte("noise"), "hard.tmp": nil, "snap.tmp": nil, "s000000000000004": []byte("noise"), "w000000000000001": []byte("noise"), "w00000000000001": nil})
	b.mustOpen()
	if !slices.Equal(b.disk.Names(), []string{"hard", "w00000000000001", "x"}) || b.node.Core().Term() != 0 {
		t.Errorf("left are %v", b.disk.Names())
	}
	b.tick(14)
	if b.node.Core().Term() != 1 {
		t.Error("it doesn't lead")
	}
}

// P20.1: the order in which it is opened: the power goes at every step.
func TestOpenSteps(t *testing.T) {
	two := snap.Snap{Index: 2, Conf: voters(2), Data: state(1)}
	long := all(run(1, 20, 1), run(21, 30, 7))
	files := map[string][]byte{"hard.tmp": nil, "snap.tmp": nil, "w000000000000099": []byte("noise")}
	for _, fs := range []map[string][]byte{hardFile(3, 1), snapFile(two), snapFile(of5(7)), walFiles(long...)} {
		maps.Copy(files, fs)
	}
	segments := slices.Sorted(maps.Keys(walFiles(long...)))
	if len(segments) < 3 {
		t.Fatalf("few segments: %v", segments)
	}
	// What is there when the power goes at each step, but for those that sync.
	gone := []string{"hard.tmp", "snap.tmp", "s000000000000002", "w000000000000099"}
	for range segments {
		gone = append(gone, "")
	}
	slices.Reverse(segments)
	gone = append(gone, segments...)
	left := slices.Sorted(maps.Keys(files))
	for n, next := range append(gone, "end") {
		b := laid(t, start{2, voters(1, 2), node.Conf{Cert: room}})
		b.files(files)
		b.fail(n + 1)
		code := b.open()
		b.lose(nil)
		if !slices.Equal(b.disk.Names(), left) || (code == api.OK) != (next == "end") || code != api.OK && code != api.ErrDown {
			t.Fatalf("the power goes at step %d: %d, left are %v, not %v", n+1, code, b.disk.Names(), left)
		}
		b.fail(0)
		b.mustOpen()
		if b.node.Core().Snap().Index != 5 || b.node.Core().Term() != 3 || strings.Contains(strings.Join(b.disk.Names(), ""), "w") {
			t.Fatalf("opened again: %v", b.disk.Names())
		}
		left = slices.DeleteFunc(left, func(name string) bool { return name == next })
	}
}

// P20.1: without power nothing is opened.
func TestOpenWithoutPower(t *testing.T) {
	b := laid(t, start{1, voters(1), node.Conf{}})
	b.fail(1)
	b.disk.Create("x")
	b.twin.Create("x")
	if code := b.open(); code != api.ErrDown {
		t.Errorf("Open = %d", code)
	}
	b.lose(nil)
	b.mustOpen()
}

// P20.1, P20.2: opened again without a crash it has the same.
func TestOpenTwice(t *testing.T) {
	for _, x := range openings() {
		b := laid(t, start{2, voters(1, 2, 3), node.Conf{Cert: room}})
		if len(x.es) > 0 {
			b.files(walFiles(x.es...))
		}
		if x.snap != nil {
			b.files(snapFile(*x.snap))
		}
		first := b.open()
		b.fail(1)
		// No segment was written to, but Open syncs what is left.
		if again := b.open(); again != first && again != api.ErrDown {
			t.Errorf("%s: %d, opened again %d", x.what, first, again)
		}
		b.lose(nil)
		if again := b.open(); again != first {
			t.Errorf("%s: %d, opened again %d", x.what, first, again)
		}
	}
}
