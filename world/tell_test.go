package world_test

import (
	"math"
	"slices"
	"testing"

	"quillet/api"
	"quillet/cert"
	"quillet/client"
	"quillet/machine"
	"quillet/msg"
	"quillet/node"
	"quillet/sub"
	"quillet/world"
)

// P22.1: what is decided has an index each, entries without a submission too; the history is what has committed of it.
func TestDecidedAndHistory(t *testing.T) {
	b := led(t, 1, 1, 2)
	b.ask(2, api.Sub{Session: 9, Seq: 9, Snap: -1, Reads: []float64{3, 1, 3}, Spans: []api.Span{{Lo: 2, Hi: 3}, {Lo: 1, Hi: 2, HiOpen: true}}, Writes: []float64{7, 5}})
	b.ask(1, api.Sub{Snap: -2, Writes: []float64{5}})
	b.poll(2)
	b.must(change(1, 1, 2), api.OK)
	b.poll(1)
	b.ask(1, api.Sub{Snap: -1, Writes: []float64{5}})
	b.poll(1)
	b.poll(1)
	want := []world.Decision{
		{Index: 1},
		{Index: 2, Answer: machine.Answer{Session: 2, Seq: 1, Verdict: api.Verdict{Num: 1}, Fresh: true}},
		{Index: 3},
		{Index: 4, Answer: machine.Answer{Session: 1, Seq: 1, Verdict: api.Verdict{Code: api.ErrWrite}, Fresh: true}},
		{Index: 5, Answer: machine.Answer{Session: 1, Seq: 2, Verdict: api.Verdict{Num: 2}, Fresh: true}},
	}
	if got := b.world.Decided(); !slices.Equal(got, want) {
		t.Errorf("decided is %v", got)
	}
	history := []api.Done{
		{Num: 1, Sub: api.Sub{Session: 2, Seq: 1, Reads: []float64{1, 3}, Spans: []api.Span{{Lo: 1, Hi: 3}}, Writes: []float64{5, 7}}},
		{Num: 2, Sub: api.Sub{Session: 1, Seq: 2, Snap: 1, Writes: []float64{5}}},
	}
	if got := b.world.History(); !slices.EqualFunc(got, history, sameDone) {
		t.Errorf("the history is %v", got)
	}
}

// forge hands a member entries that nobody has agreed upon, as if 1 had sent them.
func (b *both) forge(n int, data ...[]byte) {
	b.t.Helper()
	m := api.Msg{Kind: api.Append, From: 1, To: n, Term: 1, Commit: int64(len(data))}
	for i, d := range data {
		m.Entries = append(m.Entries, api.Entry{Index: int64(i + 1), Term: 1, Kind: api.Submit, Data: d})
	}
	b.receive(m)
}

// receive hands a message in that no member has sent; what it leads to comes to light at the next step.
func (b *both) receive(m api.Msg) {
	b.t.Helper()
	raw, e := msg.Encode(m)
	if e != api.OK {
		b.t.Fatal(e)
	}
	b.world.Node(m.To).Receive(raw)
	b.said.up[m.To].Receive(raw)
	b.must(step(world.Tick, m.To), api.OK)
}

// P22.1: decided is what was applied first; something else that is applied there parts the members, and changes nothing else. What is decided again has committed once.
func TestParted(t *testing.T) {
	b := of(t, 1, 2, 2)
	b.ask(1, writes(1))
	b.must(world.Step{Kind: world.Poll, N: 1, A: 1}, api.OK) // nobody leads, but it was submitted
	x := next(b, 1)
	b.forge(2, nil, x, x)
	answer := machine.Answer{Session: 1, Seq: 1, Verdict: api.Verdict{Num: 1}, Fresh: true}
	twice := answer
	twice.Fresh = false
	want := []world.Decision{{Index: 1}, {Index: 2, Answer: answer}, {Index: 3, Answer: twice}}
	stands := func(parted bool) {
		t.Helper()
		if got := b.world.Decided(); !slices.Equal(got, want) || b.world.Parted() != parted {
			t.Fatalf("decided is %v, parted: %v", got, b.world.Parted())
		}
		h := b.world.History()
		if len(h) != 1 || h[0].Num != 1 || h[0].Sub.Session != 1 || !slices.Equal(h[0].Sub.Writes, []float64{1}) {
			t.Fatalf("the history is %v", h)
		}
	}
	stands(false)
	b.ticks(1, 12)
	b.poll(1)
	b.poll(1)
	b.results(1, verdict(1, 1))
	stands(false) // 1 has applied the same at 2
	b.ask(2, writes(2))
	b.poll(2)
	stands(true)
	b.ask(2, writes(3)) // what follows is decided at indexes of its own
	b.poll(2)
	b.poll(2)
	if got := b.world.Decided(); len(got) != 4 || !slices.Equal(got[:3], want) || !b.world.Parted() {
		t.Errorf("decided is %v", got)
	}
	b.forge(3, nil, x, x) // the same as was decided
	b.calm(3)
	if !b.world.Parted() {
		t.Error("they are at one again")
	}
}

// P22.1: what differs in one thing alone parts members too: here in whether it was decided before.
func TestPartedByLittle(t *testing.T) {
	x := api.Sub{Session: 1, Seq: 1, Writes: []float64{1}}
	raw, _ := sub.Encode(x)
	x.Seq = 2
	other, _ := sub.Encode(x)
	for _, y := range []struct {
		one, two [][]byte
		parted   bool
	}{
		{[][]byte{nil, raw}, [][]byte{nil, raw}, false},
		{[][]byte{raw, raw}, [][]byte{nil, raw}, true},
		{[][]byte{nil, raw}, [][]byte{nil, other}, true},
		{[][]byte{nil, raw, other}, [][]byte{nil, raw}, false},
	} {
		b := of(t, 1, 2, 1)
		b.forge(2, y.one...)
		b.forge(3, y.two...)
		if b.world.Parted() != y.parted {
			t.Errorf("%v and %v: parted: %v", y.one, y.two, b.world.Parted())
		}
	}
}

// P22.1: where something was applied ahead of what is ahead of it, it is told in the order of the indexes all the same. Such a thing must be forged: a snapshot of what nobody has decided.
func TestDecidedInOrder(t *testing.T) {
	b := of(t, 1, 2, 1)
	x, _ := sub.Encode(api.Sub{Session: 1, Seq: 1, Writes: []float64{1}})
	for _, m := range []api.Msg{
		{Kind: api.Piece, Index: 5, LogTerm: 1, Conf: api.Conf{Voters: []int{1}}, Data: machine.New(b.c.Node.Cert).Bytes(), Last: true},
		{Kind: api.Append, Index: 5, LogTerm: 1, Commit: 7, Entries: []api.Entry{{Index: 6, Term: 1}, {Index: 7, Term: 1, Kind: api.Submit, Data: x}}},
	} {
		m.From, m.To, m.Term = 1, 2, 1
		b.receive(m)
	}
	b.forge(3, nil, x)
	var got []int64
	for _, d := range b.world.Decided() {
		got = append(got, d.Index)
	}
	if h := b.world.History(); !slices.Equal(got, []int64{1, 2, 6, 7}) || len(h) != 2 || b.world.Parted() {
		t.Errorf("decided is %v", b.world.Decided())
	}
}

// P22.1: Calm lets members have power, and loses what wasn't synced.
func TestCalmStarts(t *testing.T) {
	b := led(t, 3, 1, 1)
	b.ask(1, writes(1))
	b.must(step(world.Crash, 1), api.OK)
	b.must(fail(2, 1), api.OK)
	b.must(fail(3, 3), api.OK)
	b.must(step(world.Crash, 4), api.OK)
	b.calm(1)
	for n := 1; n <= 4; n++ {
		if b.world.Node(n) == nil {
			t.Fatalf("%d isn't up", n)
		}
	}
	b.calm(40)
	b.results(1, verdict(1, 1))
	for n := 1; n <= 4; n++ {
		if b.world.Node(n) == nil {
			t.Fatalf("%d isn't up", n)
		}
	}
}

// P22.1: no units, and as many as may be: a Leader sends at every second tick, so that it tells how many there were.
func TestCalmUnits(t *testing.T) {
	for _, x := range []struct {
		units int
		even  bool
	}{{0, true}, {-1, true}, {math.MinInt, true}, {1, false}, {2, true}, {999, false}, {1000, true}, {1001, true}, {1003, true}, {math.MaxInt, true}} {
		b := led(t, 2, 0, 1)
		b.calm(x.units)
		b.ticks(1, 1)
		if sends := len(b.said.under) > 0; sends == x.even {
			t.Errorf("Calm(%d): it sends: %v", x.units, sends)
		}
		b.deliver()
	}
}

// P22.1: in each unit each client asks once, the first first, behind the ticks, and ahead of the letters.
func TestCalmAsks(t *testing.T) {
	b := of(t, 1, 0, 3)
	for n := 1; n <= 3; n++ {
		b.ask(n, writes(1))
		b.ask(n, api.Sub{Snap: -1, Writes: []float64{float64(n) + 10}})
	}
	b.calm(11)
	if len(b.world.Decided()) != 0 {
		t.Fatalf("decided is %v", b.world.Decided())
	}
	b.calm(1)
	if got := b.world.Decided(); len(got) != 4 || got[1].Answer.Session != 1 || got[2].Answer.Session != 2 || got[3].Answer.Session != 3 {
		t.Fatalf("decided is %v", got)
	}
	b.results(1)
	b.calm(1)
	b.results(1, verdict(1, 1))
	b.results(3, client.Result{Seq: 1, Verdict: api.Verdict{Code: api.ErrWrite}})
	if got := b.world.Decided(); len(got) != 4 {
		t.Fatalf("decided is %v", got)
	}
	b.calm(2)
	if got := len(b.world.Client(2).Results()); got != 2 {
		t.Errorf("2 has %d results", got)
	}
}

// P22.1: a unit delivers 5000 letters at most. Of a snapshot of many pieces that is asked for in many copies there are more.
func TestCalmLetters(t *testing.T) {
	met := map[string]int{}
	b := newBoth(t, world.Conf{Nodes: 1, Spare: 1, Clients: 1, Node: node.Conf{Cert: cert.Conf{Keep: 32, Old: 64}, Keep: 1}}, met)
	b.ticks(1, 12)
	for i := range 8 {
		var keys []float64
		for k := range 16 {
			keys = append(keys, float64(20*i+k))
		}
		b.settled(writes(keys...))
	}
	b.must(step(world.Crash, 2), api.OK)
	b.must(change(1, 1, 2), api.OK)
	b.deliver()
	b.must(step(world.Start, 2), api.OK)
	b.ticks(1, 2)
	b.must(step(world.Deliver, 0), api.OK) // it lacks what is ahead
	b.must(step(world.Deliver, 0), api.OK) // so it is sent a piece
	for range 400 {
		b.must(step(world.Double, 0), api.OK)
	}
	b.calm(1)
	if met["more than 5000 letters"] != 1 || len(b.said.under) == 0 || b.world.Node(2).Machine().Index() != 0 {
		t.Fatalf("%d letters are left, 2 is at %d", len(b.said.under), b.world.Node(2).Machine().Index())
	}
	b.must(step(world.Crash, 2), api.OK)
	b.deliver() // just as many as are left, of those to 1 with the answers
	b.calm(30)
	if len(b.said.under) != 0 || b.world.Node(2).Machine().Index() != b.world.Node(1).Machine().Index() {
		t.Fatalf("%d letters are left, 2 is at %d", len(b.said.under), b.world.Node(2).Machine().Index())
	}
	b.same()
}

// P22.1: what the conf says of Nodes is theirs.
func TestNodeConf(t *testing.T) {
	for _, keep := range []int{-3, 0, 1, 2, 7, 64, 1000} {
		b := newBoth(t, world.Conf{Nodes: 1, Clients: 1, Node: node.Conf{Cert: cert.Conf{Keep: keep, Old: keep}, Keep: keep}}, map[string]int{})
		b.ticks(1, 12)
		for i := range 9 {
			b.settled(writes(float64(i), 0.5))
		}
		base, _ := b.world.Node(1).Core().Log().Base()
		every := int64(max(1, min(64, keep)))
		if want := 10 / every * every; base != want {
			t.Errorf("Keep %d: the log's base is %d, not %d", keep, base, want)
		}
		b.must(step(world.Crash, 1), api.OK)
		b.must(step(world.Start, 1), api.OK)
		if got := b.world.Node(1).Machine().Index(); got != base {
			t.Errorf("Keep %d: it begins at %d", keep, got)
		}
		b.same()
	}
}
