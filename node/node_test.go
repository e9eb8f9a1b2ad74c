package node_test

import (
	"bytes"
	"math"
	"slices"
	"testing"

	"quillet/api"
	"quillet/cert"
	"quillet/conf"
	"quillet/disk"
	"quillet/machine"
	"quillet/node"
	"quillet/raft"
)

// P20.1: the chapter's example.
func TestExample(t *testing.T) {
	b := of(t, 1, 1)
	b.tick(12)
	if v, code := b.submit(asked(1, 1, 0, 5)); code != api.ErrBusy || v != (api.Verdict{}) {
		t.Errorf("Submit = %v, %d", v, code)
	}
	again := func() {
		t.Helper()
		if v, code := b.submit(asked(1, 1, 0, 5)); code != api.OK || v != (api.Verdict{Num: 1}) {
			t.Errorf("Submit again = %v, %d", v, code)
		}
	}
	again()
	b.crash(nil)
	if v, code := b.submit(asked(1, 1, 0, 5)); code != api.ErrLead || v != (api.Verdict{}) {
		t.Errorf("ahead of the ticks: %v, %d", v, code)
	}
	b.tick(12)
	again()
}

// P20.1: who leads alone settles in each call, and tells what was applied once.
func TestAlone(t *testing.T) {
	b := of(t, 3, 3)
	b.tick(15)
	if b.node.Core().Role() != raft.Follower || len(b.disk.Names()) != 0 {
		t.Fatalf("role %d, %v", b.node.Core().Role(), b.disk.Names())
	}
	b.tick(1)
	if !slices.Equal(b.disk.Names(), []string{"hard", "w000000000000001"}) || b.disk.Loose() != 0 {
		t.Errorf("the disk has %v", b.disk.Names())
	}
	b.submit(asked(4, 7, 0, 1))
	b.submit(asked(4, 8, 0, 1))
	b.submit(asked(5, 1, 9, 2))
	want := []node.Applied{
		{Index: 1},
		{Index: 2, Answer: machine.Answer{Session: 4, Seq: 7, Verdict: api.Verdict{Num: 1}, Fresh: true}},
		{Index: 3, Answer: machine.Answer{Session: 4, Seq: 8, Verdict: api.Verdict{Code: api.ErrWrite}, Fresh: true}},
		{Index: 4, Answer: machine.Answer{Session: 5, Seq: 1, Verdict: api.Verdict{Code: api.ErrYoung}, Fresh: true}},
	}
	if got := b.applied(); !slices.Equal(got, want) {
		t.Errorf("applied is %v", got)
	}
	if len(b.applied()) != 0 || b.node.Machine().Index() != 4 || b.node.Machine().Count() != 1 {
		t.Errorf("the Machine is at %d", b.node.Machine().Index())
	}
	b.none("alone")
}

// P20.1: what is applied is told in order, with what isn't a submission.
func TestApplied(t *testing.T) {
	b := of(t, 2, 1, 2)
	same := asked(1, 1, 0, 1)
	b.step(appended(3, 0, 0, 0, noop(1, 1), submitted(2, 1, same), submitted(3, 2, []byte("none")), changed(4, 2, voters(1, 2, 3)), submitted(5, 3, same)))
	if len(b.applied()) != 0 || b.node.Machine().Index() != 0 {
		t.Error("applied ahead of its commit")
	}
	b.step(appended(3, 5, 3, 4))
	b.step(appended(3, 5, 3, 5))
	b.step(appended(3, 5, 3, 5))
	got := b.applied()
	decided := machine.Answer{Session: 1, Seq: 1, Verdict: api.Verdict{Num: 1}}
	if len(got) != 5 || got[4] != (node.Applied{Index: 5, Answer: decided}) {
		t.Fatalf("applied is %v", got)
	}
	decided.Fresh = true
	if !slices.Equal(got[:4], []node.Applied{{Index: 1}, {Index: 2, Answer: decided}, {Index: 3}, {Index: 4}}) {
		t.Errorf("applied is %v", got)
	}
}

// P20.1: what the Core sends waits as letters, in order, until they are taken.
func TestLetters(t *testing.T) {
	b := of(t, 1, 1, 2, 3)
	b.tick(12)
	out := b.letters()
	if len(out) != 2 || out[0].Kind != api.PreAsk || out[0].To != 2 || out[1].To != 3 {
		t.Fatalf("the letters are %v", out)
	}
	b.none("they were taken")
	b.step(api.Msg{Kind: api.PreSay, From: 3, To: 1, Term: 1, Ok: true})
	b.step(api.Msg{Kind: api.Say, From: 3, To: 1, Term: 1, Ok: true})
	out = b.letters()
	if len(out) != 4 || out[1].Kind != api.Ask || out[2].Kind != api.Append || out[3].To != 3 {
		t.Errorf("the letters are %v", out)
	}
	b.submit(asked(1, 1, 0, 1))
	if out = b.letters(); len(out) != 2 || len(out[0].Entries) == 0 {
		t.Errorf("the letters are %v", out)
	}
}

// P20.1: how a change is answered: the Core's errors, and what is kept of it.
func TestChange(t *testing.T) {
	b := of(t, 1, 1)
	if b.change(conf.Learn, 2) != api.ErrLead {
		t.Error("not the Leader")
	}
	b.tick(12)
	for _, x := range []struct {
		kind, m int
		want    api.Errno
	}{{conf.Remove, 1, api.ErrArg}, {7, 2, api.ErrArg}, {0, 0, api.ErrArg}, {conf.Learn, 8, api.ErrArg}, {conf.Promote, 2, api.ErrNone}, {conf.Learn, 1, api.ErrTwice}, {math.MaxInt, math.MinInt, api.ErrArg}} {
		if got := b.change(x.kind, x.m); got != x.want {
			t.Errorf("Change(%d, %d) = %d", x.kind, x.m, got)
		}
	}
	if b.change(conf.Learn, 2) != api.OK || b.change(conf.Promote, 2) != api.ErrBusy {
		t.Error("Learn, Promote")
	}
	b.letters()
	b.got(2, 2)
	if b.change(conf.Promote, 2) != api.OK || b.change(conf.Learn, 3) != api.ErrBusy {
		t.Error("Promote, Learn")
	}
	b.crash(nil)
	if c, at := b.node.Core().Log().Conf(); !sameConf(c, voters(1, 2)) || at != 3 {
		t.Errorf("kept is %v at %d", c, at)
	}
}

// P20.1: what is no submission, what was decided, what can't be: ahead of asking who leads.
func TestSubmitOfOneThatFollows(t *testing.T) {
	b := of(t, 2, 1, 2)
	es := []api.Entry{noop(1, 1)}
	for i := range int64(16) {
		es = append(es, submitted(i+2, 1, asked(i+1, 10, 0, float64(i))))
	}
	b.step(appended(1, 0, 0, 8, es[:8]...), appended(1, 8, 1, 16, es[8:16]...), appended(1, 16, 1, 17, es[16:]...))
	for _, x := range []struct {
		raw  []byte
		v    api.Verdict
		code api.Errno
	}{
		{nil, api.Verdict{}, api.ErrForm},
		{[]byte("noise"), api.Verdict{}, api.ErrForm},
		{append(asked(1, 10, 0, 1), 0), api.Verdict{}, api.ErrForm},
		{asked(3, 10, 0, 2), api.Verdict{Num: 3}, api.OK},
		{asked(3, 10, 7, 99), api.Verdict{Num: 3}, api.OK},
		{asked(3, 2, 0, 1), api.Verdict{Code: api.ErrGone}, api.OK},
		{asked(17, 1, 0, 1), api.Verdict{Code: api.ErrFull}, api.OK},
		{asked(3, 3, 0, 1), api.Verdict{}, api.ErrLead},
		{asked(3, 11, 0, 1), api.Verdict{}, api.ErrLead},
	} {
		if v, code := b.submit(x.raw); v != x.v || code != x.code {
			t.Errorf("Submit(%v) = %v, %d", x.raw, v, code)
		}
	}
}

// P20.1: what is under way isn't proposed again, as long as it isn't applied; other bytes are, though of the same number.
func TestSubmitTwice(t *testing.T) {
	b := of(t, 1, 1, 2)
	b.elect(2)
	last := func(want int64) {
		t.Helper()
		if got, _ := b.node.Core().Log().Last(); got != want {
			t.Errorf("the last is %d, not %d", got, want)
		}
	}
	first, other := asked(1, 1, 0, 1), asked(1, 1, 0, 2)
	for range 3 {
		b.submit(first)
		last(2)
	}
	if out := b.letters(); len(out) != 1 {
		t.Errorf("the letters are %v", out)
	}
	b.submit(other)
	last(3)
	b.submit(first)
	b.submit(other)
	last(3)
	b.got(2, 2)
	if v, code := b.submit(other); code != api.OK || v.Num != 1 {
		t.Errorf("decided is %v, %d", v, code)
	}
	b.got(2, 3)
	if got := b.applied(); len(got) != 3 || got[1].Answer.Fresh == got[2].Answer.Fresh || got[1].Answer.Verdict != got[2].Answer.Verdict {
		t.Errorf("applied is %v", got)
	}
}

// P20.1: an entry that isn't applied and has the bytes, of whatever Kind it is, keeps them from being proposed; one that is applied doesn't.
func TestSubmitWhatOthersHave(t *testing.T) {
	b := of(t, 2, 1, 2)
	raw := asked(1, 1, 0, 1)
	b.step(appended(1, 0, 0, 1, api.Entry{Index: 1, Term: 1, Data: raw}, api.Entry{Index: 2, Term: 1, Data: asked(1, 2, 0, 1)}))
	b.elect(1)
	if _, code := b.submit(asked(1, 2, 0, 1)); code != api.ErrBusy {
		t.Errorf("Submit = %d", code)
	}
	if last, _ := b.node.Core().Log().Last(); last != 3 {
		t.Errorf("the last is %d", last)
	}
	if _, code := b.submit(raw); code != api.ErrBusy {
		t.Errorf("Submit = %d", code)
	}
	if last, _ := b.node.Core().Log().Last(); last != 4 {
		t.Errorf("the last is %d", last)
	}
	// A Noop decides nothing, so behind it the same is proposed.
	b.got(1, 3)
	if _, code := b.submit(asked(1, 2, 0, 1)); code != api.ErrBusy {
		t.Errorf("Submit = %d", code)
	}
	if last, _ := b.node.Core().Log().Last(); last != 5 {
		t.Errorf("the last is %d", last)
	}
}

// P20.1: of how many entries the Machine may be ahead of the snapshot.
func TestKeep(t *testing.T) {
	for keep, want := range map[int]int64{math.MinInt: 1, -1: 1, 0: 1, 1: 1, 2: 2, 3: 3, 63: 63, 64: 64, 65: 64, 1000: 64, math.MaxInt: 64} {
		b := newBoth(t, start{1, voters(1), node.Conf{Cert: room, Keep: keep}})
		b.tick(12)
		for i := range int64(130) {
			made := (i + 1) / want * want
			if base, _ := b.node.Core().Log().Base(); base != made || b.node.Core().Snap().Index != made {
				t.Fatalf("Keep %d, %d applied: the base is %d", keep, i+1, base)
			}
			b.submit(asked(1, i+1, i, 1))
		}
		b.crash(nil)
		if index := b.node.Machine().Index(); index != 131/want*want {
			t.Errorf("Keep %d: the Machine is at %d", keep, index)
		}
		b.tick(12)
		if n := b.node.Machine().Count(); n != 130 {
			t.Errorf("Keep %d: %d have committed", keep, n)
		}
	}
}

// P20.1: the Machine is of the Conf's certifier, new and loaded.
func TestCertConf(t *testing.T) {
	for _, c := range []cert.Conf{{}, {Keep: 1, Old: 1}, {Keep: 32, Old: 64}, {Keep: -1, Old: 1000}} {
		for _, keep := range []int{2, 64} {
			b := newBoth(t, start{1, voters(1), node.Conf{Cert: c, Keep: keep}})
			m := machine.New(c)
			b.tick(12)
			m.Apply(noop(1, 1))
			for i := range int64(9) {
				if i == 6 {
					b.crash(nil)
					b.tick(12)
					m.Apply(noop(i+2, 2))
				}
				raw := asked(1, i+1, i/2, float64(i), float64(i+20))
				b.submit(raw)
				m.Apply(submitted(m.Index()+1, 1, raw))
			}
			if !bytes.Equal(b.node.Machine().Bytes(), m.Bytes()) || b.node.Machine().Horizon() != m.Horizon() {
				t.Errorf("%v, Keep %d: %v, not %v", c, keep, b.node.Machine().Bytes(), m.Bytes())
			}
		}
	}
}

// P20.1: wrong arguments, ahead of all else: of a disk without power too; nothing is done.
func TestOpenWrong(t *testing.T) {
	for _, x := range []start{
		{n: 0, boot: voters(1)}, {n: -1, boot: voters(1)}, {n: 8, boot: voters(1)}, {n: math.MinInt, boot: voters(1)}, {n: math.MaxInt, boot: voters(1)},
		{n: 1}, {n: 1, boot: api.Conf{Learners: []int{1}}}, {n: 1, boot: voters(2, 1)}, {n: 1, boot: voters(1, 1)}, {n: 1, boot: voters(0)}, {n: 1, boot: voters(8)}, {n: 1, boot: api.Conf{Voters: []int{1}, Learners: []int{1}}},
	} {
		for _, power := range []bool{true, false} {
			b := laid(t, x)
			b.files(map[string][]byte{"hard.tmp": nil, "snap.tmp": nil, "w000000000000007": []byte("noise")})
			if !power {
				b.fail(1)
				b.disk.Sync("hard.tmp")
				b.twin.Sync("hard.tmp")
			}
			if code := b.open(); code != api.ErrArg || len(b.disk.Names()) != 3 {
				t.Errorf("Open(%d, %v) = %d, left are %v", x.n, x.boot, code, b.disk.Names())
			}
		}
	}
	for n := 1; n <= 7; n++ {
		// It needn't belong to the cluster.
		if x, code := node.Open(n, voters(4), node.Conf{}, disk.New()); code != api.OK || x.Down() || x.Core().Role() != raft.Follower {
			t.Errorf("Open(%d) = %d", n, code)
		}
	}
}

// P20.1: one that isn't a voter, or doesn't belong to it, never leads.
func TestOnlyVotersLead(t *testing.T) {
	for _, boot := range []api.Conf{voters(2), {Voters: []int{2}, Learners: []int{1}}} {
		b := newBoth(t, start{1, boot, node.Conf{}})
		b.tick(50)
		b.none("not a voter")
		if b.node.Core().Term() != 0 || len(b.disk.Names()) != 0 {
			t.Errorf("%v: term %d, %v", boot, b.node.Core().Term(), b.disk.Names())
		}
	}
}
