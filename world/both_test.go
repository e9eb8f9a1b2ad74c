package world_test

import (
	"bytes"
	"slices"
	"testing"

	"quillet/api"
	"quillet/cert"
	"quillet/client"
	"quillet/node"
	"quillet/world"
)

// both is a World, and what is said of it.
type both struct {
	t     *testing.T
	c     world.Conf
	all   int
	world *world.World
	said  *said
	steps int
}

// small is a Conf by which much goes into summaries and snapshots.
func small(nodes, spare, clients int) world.Conf {
	return world.Conf{Nodes: nodes, Spare: spare, Clients: clients, Node: node.Conf{Cert: cert.Conf{Keep: 4, Old: 12}, Keep: 5}}
}

func newBoth(t *testing.T, c world.Conf, met map[string]int) *both {
	t.Helper()
	w, e := world.New(c)
	if e != api.OK || w == nil {
		t.Fatalf("New(%v) = %v, %d", c, w, e)
	}
	s, _ := saidNew(c, met)
	b := &both{t: t, c: c, all: c.Nodes + c.Spare, world: w, said: s}
	b.told("New")
	return b
}

func of(t *testing.T, nodes, spare, clients int) *both {
	t.Helper()
	return newBoth(t, small(nodes, spare, clients), map[string]int{})
}

func (b *both) do(s world.Step) api.Errno {
	b.t.Helper()
	got, want := b.world.Do(s), b.said.do(s)
	b.steps++
	if got != want {
		b.t.Fatalf("step %d: %+v = %d, not %d", b.steps, s, got, want)
	}
	b.told(s)
	return got
}

// must is a step of which the answer is known.
func (b *both) must(s world.Step, want api.Errno) {
	b.t.Helper()
	if got := b.do(s); got != want {
		b.t.Fatalf("%+v = %d, not %d", s, got, want)
	}
}

func (b *both) calm(units int) {
	b.t.Helper()
	b.world.Calm(units)
	b.said.calm(units)
	b.told("Calm")
}

// ticks lets time pass for a member.
func (b *both) ticks(n, times int) {
	b.t.Helper()
	for range times {
		b.must(world.Step{Kind: world.Tick, N: n}, api.OK)
	}
}

// deliver delivers all that is under way, and what comes of it.
func (b *both) deliver() {
	b.t.Helper()
	for len(b.said.under) > 0 {
		b.must(world.Step{Kind: world.Deliver}, api.OK)
	}
	b.must(world.Step{Kind: world.Deliver}, api.ErrNone)
}

// led is a world in which 1 leads.
func led(t *testing.T, nodes, spare, clients int) *both {
	t.Helper()
	b := of(t, nodes, spare, clients)
	b.ticks(1, 12)
	b.deliver()
	if b.world.Leader() != 1 {
		t.Fatalf("%d leads", b.world.Leader())
	}
	return b
}

func (b *both) ask(n int, s api.Sub) {
	b.t.Helper()
	b.must(world.Step{Kind: world.Ask, N: n, Sub: s}, api.OK)
}

func (b *both) poll(n int) {
	b.t.Helper()
	b.must(world.Step{Kind: world.Poll, N: n}, api.OK)
}

// results are a client's.
func (b *both) results(n int, want ...client.Result) {
	b.t.Helper()
	if got := b.world.Client(n).Results(); !slices.Equal(got, want) {
		b.t.Fatalf("%d has the results %v, not %v", n, got, want)
	}
}

// told holds all that a World tells against what it should.
func (b *both) told(what any) {
	b.t.Helper()
	if got, want := b.world.Decided(), b.said.decided(); !slices.Equal(got, want) {
		b.t.Fatalf("%v: decided is\n%v, not\n%v", what, got, want)
	}
	if got := b.world.Parted(); got != b.said.parted {
		b.t.Fatalf("%v: parted: %v", what, got)
	}
	if got, want := b.world.History(), b.said.history(); !slices.EqualFunc(got, want, sameDone) {
		b.t.Fatalf("%v: the history is\n%v, not\n%v", what, got, want)
	}
	if got, want := b.world.Leader(), b.said.leader(); got != want {
		b.t.Fatalf("%v: %d leads, not %d", what, got, want)
	}
	for n := -1; n <= 9; n++ {
		b.sameNode(what, n)
		b.sameClient(what, n)
	}
}

func sameDone(a, b api.Done) bool { return a.Num == b.Num && sameSub(a.Sub, b.Sub) }

func sameSub(a, b api.Sub) bool {
	return a.Session == b.Session && a.Seq == b.Seq && a.Snap == b.Snap && slices.Equal(a.Reads, b.Reads) && slices.Equal(a.Spans, b.Spans) && slices.Equal(a.Writes, b.Writes)
}

func (b *both) sameNode(what any, n int) {
	b.t.Helper()
	got, want := b.world.Node(n), b.said.up[n]
	if (got == nil) != (want == nil) {
		b.t.Fatalf("%v: %d is up: %v", what, n, got != nil)
	}
	if got == nil {
		return
	}
	x, y := got.Core(), want.Core()
	last, lastTerm := x.Log().Last()
	wantLast, wantTerm := y.Log().Last()
	if x.Term() != y.Term() || x.Vote() != y.Vote() || x.Role() != y.Role() || x.Lead() != y.Lead() || x.Commit() != y.Commit() || last != wantLast || lastTerm != wantTerm {
		b.t.Fatalf("%v: %d has term %d, vote %d, role %d, lead %d, commit %d, last %d of %d; not %d, %d, %d, %d, %d, %d of %d", what, n, x.Term(), x.Vote(), x.Role(), x.Lead(), x.Commit(), last, lastTerm, y.Term(), y.Vote(), y.Role(), y.Lead(), y.Commit(), wantLast, wantTerm)
	}
	if got.Machine().Index() != want.Machine().Index() || got.Machine().Count() != want.Machine().Count() {
		b.t.Fatalf("%v: %d is at %d with %d, not at %d with %d", what, n, got.Machine().Index(), got.Machine().Count(), want.Machine().Index(), want.Machine().Count())
	}
	if letters, applied := got.Letters(), got.Applied(); len(letters)+len(applied) > 0 || got.Down() {
		b.t.Fatalf("%v: of %d are left %v, %v, down: %v", what, n, letters, applied, got.Down())
	}
}

func (b *both) sameClient(what any, n int) {
	b.t.Helper()
	got, want := b.world.Client(n), b.said.clients[n]
	if (got == nil) != (want == nil) {
		b.t.Fatalf("%v: there is a client %d: %v", what, n, got != nil)
	}
	if got == nil {
		return
	}
	_, raw, _ := got.Next()
	_, wantRaw, _ := want.Next()
	if !slices.Equal(got.Open(), want.Open()) || !slices.Equal(got.Results(), want.Results()) || got.Target() != want.Target() || !bytes.Equal(raw, wantRaw) {
		b.t.Fatalf("%v: client %d has open %v, results %v, target %d; not %v, %v, %d", what, n, got.Open(), got.Results(), got.Target(), want.Open(), want.Results(), want.Target())
	}
}

// same holds the Machines' bytes against each other.
func (b *both) same() {
	b.t.Helper()
	for n, want := range b.said.up {
		if got := b.world.Node(n); !bytes.Equal(got.Machine().Bytes(), want.Machine().Bytes()) {
			b.t.Fatalf("%d has another Machine than is said", n)
		}
	}
}
