package world_test

import (
	"math"
	"slices"
	"testing"

	"quillet/api"
	"quillet/client"
	"quillet/sub"
	"quillet/world"
)

func step(kind, n int) world.Step { return world.Step{Kind: kind, N: n} }

func fail(n, at int) world.Step { return world.Step{Kind: world.Fail, N: n, A: at} }

func change(n, kind, m int) world.Step { return world.Step{Kind: world.Change, N: n, A: kind, B: m} }

// writes is a submission on the newest snapshot.
func writes(keys ...float64) api.Sub { return api.Sub{Snap: -1, Writes: keys} }

func verdict(seq, num int64) client.Result {
	return client.Result{Seq: seq, Verdict: api.Verdict{Num: num}}
}

// P22.1: the chapter's example.
func TestExample(t *testing.T) {
	b := of(t, 3, 0, 1)
	b.ask(1, writes(1))
	b.calm(60)
	b.results(1, verdict(1, 1))
}

// P22.1: the kinds have the numbers that the chapter names.
func TestKinds(t *testing.T) {
	got := []int{world.Tick, world.Deliver, world.Drop, world.Double, world.Swap, world.Short, world.Crash, world.Start, world.Fail, world.Ask, world.Poll, world.Change}
	if !slices.Equal(got, []int{1, 2, 3, 4, 5, 6, 7, 8, 9, 10, 11, 12}) {
		t.Errorf("the kinds are %v", got)
	}
}

// P22.1: which worlds there are.
func TestNew(t *testing.T) {
	odd := []int{math.MinInt, -1, 0, 1, 2, 3, 4, 5, 6, 7, 1<<32 + 1, math.MaxInt}
	made := 0
	for _, nodes := range odd {
		for _, spare := range odd {
			for _, clients := range odd {
				right := 1 <= nodes && nodes <= 5 && 0 <= spare && spare <= 2 && 1 <= clients && clients <= 3
				w, e := world.New(world.Conf{Nodes: nodes, Spare: spare, Clients: clients})
				if (e == api.OK) != right || (w != nil) != right || !right && e != api.ErrArg {
					t.Fatalf("New(%d, %d, %d) = %v, %d", nodes, spare, clients, w != nil, e)
				}
				if right {
					made++
					begins(t, w, nodes, spare, clients)
				}
			}
		}
	}
	if made != 45 {
		t.Errorf("%d are made", made)
	}
}

// begins asks how a world begins.
func begins(t *testing.T, w *world.World, nodes, spare, clients int) {
	t.Helper()
	for n := -1; n <= 9; n++ {
		x := w.Node(n)
		if (x != nil) != (1 <= n && n <= nodes+spare) {
			t.Fatalf("%d of %d and %d is up: %v", n, nodes, spare, x != nil)
		}
		if x == nil {
			continue
		}
		c, at := x.Core().Log().Conf()
		last, _ := x.Core().Log().Last()
		if len(c.Voters) != nodes || c.Voters[nodes-1] != nodes || len(c.Learners) != 0 || at != 0 || last != 0 || x.Core().Term() != 0 || x.Machine().Index() != 0 {
			t.Fatalf("%d of %d and %d begins with %v", n, nodes, spare, c)
		}
	}
	for n := -1; n <= 5; n++ {
		if c := w.Client(n); (c != nil) != (1 <= n && n <= clients) || c != nil && (c.Target() != 1 || len(c.Open()) != 0 || len(c.Results()) != 0) {
			t.Fatalf("client %d of %d: %v", n, clients, c)
		}
	}
	if len(w.Decided()) != 0 || len(w.History()) != 0 || w.Parted() || w.Leader() != 0 {
		t.Fatal("something was decided")
	}
}

// P22.1: a client asks all members in turn, those too who don't belong to the cluster.
func TestClientsHaveAllMembers(t *testing.T) {
	b := of(t, 2, 2, 3)
	for n := 1; n <= 3; n++ {
		b.ask(n, writes(1))
		for _, want := range []int{2, 3, 4, 1, 2} {
			b.poll(n) // nobody leads
			if got := b.world.Client(n).Target(); got != want {
				t.Fatalf("client %d asks %d, not %d", n, got, want)
			}
		}
		if s, e := sub.Decode(next(b, n)); e != api.OK || s.Session != int64(n) || s.Seq != 1 {
			t.Errorf("client %d asks for %v", n, s)
		}
	}
}

func next(b *both, n int) []byte {
	_, raw, _ := b.world.Client(n).Next()
	return raw
}

// P22.1: no such kind, member or client.
func TestNoSuch(t *testing.T) {
	odd := []int{math.MinInt, -7, -1, 0, 1<<32 + 1, math.MaxInt}
	b := of(t, 2, 1, 2)
	for _, kind := range append(odd, 13, 14, 1<<32+1) {
		b.must(world.Step{Kind: kind, N: 1, B: 1, Sub: writes(1)}, api.ErrArg)
	}
	for _, n := range append(odd, 4, 5, 7) {
		for _, kind := range []int{world.Tick, world.Crash, world.Start, world.Fail, world.Change} {
			b.must(world.Step{Kind: kind, N: n, A: 1, B: 1}, api.ErrArg)
		}
		b.must(change(1, 1, n), api.ErrArg)
	}
	for _, n := range append(odd, 3, 4) {
		b.must(world.Step{Kind: world.Ask, N: n, Sub: writes(1)}, api.ErrArg)
		b.must(step(world.Poll, n), api.ErrArg)
	}
	// No such one is told ahead of one that isn't up.
	b.must(step(world.Crash, 2), api.OK)
	b.must(change(2, 1, 4), api.ErrArg)
	b.must(change(2, 1, 3), api.ErrNone)
	for _, n := range append(odd, 4, 99) {
		if b.world.Node(n) != nil || b.world.Client(n) != nil {
			t.Errorf("there is a %d", n)
		}
	}
}

// P22.1: what a kind doesn't name is let be.
func TestWhatIsNotNamed(t *testing.T) {
	b := led(t, 2, 0, 1)
	odd := world.Step{N: -5, B: math.MaxInt, Sub: api.Sub{Snap: -9, Reads: []float64{math.NaN()}}, Keep: make([]bool, 3)}
	b.ticks(1, 2)
	for _, x := range []struct{ kind, a, b int }{{world.Double, 0, -1}, {world.Swap, 1, 0}, {world.Short, 0, 99}, {world.Drop, 1, -3}, {world.Deliver, 0, 77}} {
		s := odd
		s.Kind, s.A, s.B = x.kind, x.a, x.b
		b.must(s, api.OK)
	}
	s := odd
	for _, s.Kind = range []int{world.Tick, world.Fail, world.Crash, world.Start} {
		s.N = 2
		b.must(s, api.OK)
	}
	b.must(world.Step{Kind: world.Ask, N: 1, A: -1, B: -1, Sub: writes(1), Keep: odd.Keep}, api.OK)
	b.must(world.Step{Kind: world.Poll, N: 1, B: -1, Sub: odd.Sub}, api.OK)
}

// P22.1: of one that isn't up nothing happens but a Crash and a Start.
func TestNotUp(t *testing.T) {
	b := led(t, 3, 0, 1)
	b.must(step(world.Start, 2), api.ErrNone)
	for range 2 {
		b.must(step(world.Crash, 2), api.OK)
		if b.world.Node(2) != nil {
			t.Fatal("2 is up")
		}
		for _, s := range []world.Step{step(world.Tick, 2), fail(2, 1), change(2, 1, 1), change(2, 9, 2)} {
			b.must(s, api.ErrNone)
		}
	}
	b.must(step(world.Start, 2), api.OK)
	b.must(step(world.Start, 2), api.ErrNone)
	b.ticks(2, 2) // no Fail was set
	if x := b.world.Node(2); x.Core().Term() != 1 || x.Core().Lead() != 0 {
		t.Errorf("2 has term %d", x.Core().Term())
	}
}

// P22.1: a member whose disk fails isn't up any more, which the step doesn't tell; it can be started behind a Crash alone.
func TestFail(t *testing.T) {
	b := of(t, 1, 0, 1)
	b.must(fail(1, 0), api.OK)
	b.must(fail(1, -4), api.OK)
	b.ticks(1, 11)
	b.must(fail(1, 2), api.OK)
	b.must(step(world.Tick, 1), api.OK)
	if b.world.Node(1) != nil {
		t.Fatal("it is up")
	}
	b.must(step(world.Tick, 1), api.ErrNone)
	b.must(step(world.Start, 1), api.ErrDown)
	b.must(step(world.Start, 1), api.ErrDown)
	b.must(step(world.Crash, 1), api.OK)
	b.must(step(world.Start, 1), api.OK)
	b.ticks(1, 12)
	if b.world.Leader() != 1 {
		t.Error("it doesn't lead")
	}
	b.ask(1, writes(1))
	b.must(fail(1, 1), api.OK)
	b.poll(1)
	if b.world.Node(1) != nil || len(b.world.Client(1).Results()) != 0 || b.world.Leader() != 0 {
		t.Error("it is up")
	}
}

// P22.1: a Crash keeps the sectors that it names: behind the step that fails, the entry is on the disk, not yet safe.
func TestKeep(t *testing.T) {
	for _, x := range []struct {
		keep []bool
		last int64
	}{{nil, 0}, {[]bool{false, true}, 0}, {[]bool{true}, 1}, {[]bool{true, true, true}, 1}} {
		b := of(t, 1, 0, 1)
		b.must(fail(1, 7), api.OK) // four steps of the term, then Create, Write and Sync
		b.ticks(1, 12)
		b.must(world.Step{Kind: world.Crash, N: 1, Keep: x.keep}, api.OK)
		b.must(step(world.Start, 1), api.OK)
		last, _ := b.world.Node(1).Core().Log().Last()
		if last != x.last || b.world.Node(1).Core().Term() != 1 {
			t.Errorf("Crash(%v): the last entry is %d", x.keep, last)
		}
	}
	b := of(t, 1, 0, 1)
	b.must(fail(1, 7), api.OK)
	b.ticks(1, 12)
	b.calm(1) // it keeps none
	if last, _ := b.world.Node(1).Core().Log().Last(); last != 0 {
		t.Errorf("the calm: the last entry is %d", last)
	}
}

// settled asks for a submission of client 1, and lets it be decided by the leader.
func (b *both) settled(s api.Sub) {
	b.t.Helper()
	b.ask(1, s)
	for range 3 {
		if len(b.world.Client(1).Open()) == 0 {
			return
		}
		b.poll(1)
		b.deliver()
	}
	b.t.Fatalf("%v isn't decided", s)
}

// P22.1: a Snap below 0 counts back from what was decided to commit; what was refused doesn't count.
func TestSnaps(t *testing.T) {
	for _, x := range []struct{ snap, want int64 }{{-1, 3}, {-2, 2}, {-3, 1}, {-4, 0}, {-5, 0}, {-900, 0}, {math.MinInt64, 0}, {0, 0}, {2, 2}, {9, 9}, {api.MaxNumber, api.MaxNumber}} {
		b := led(t, 2, 0, 1)
		for i := range 3 {
			b.settled(writes(float64(i)))
		}
		b.settled(api.Sub{Writes: []float64{1}})
		b.results(1, verdict(1, 1), verdict(2, 2), verdict(3, 3), client.Result{Seq: 4, Verdict: api.Verdict{Code: api.ErrWrite}})
		b.ask(1, api.Sub{Snap: x.snap})
		if s, _ := sub.Decode(next(b, 1)); s.Snap != x.want {
			t.Errorf("Snap %d is asked for as %d, not %d", x.snap, s.Snap, x.want)
		}
	}
	b := of(t, 1, 0, 1) // nothing was decided yet
	for _, snap := range []int64{-1, -2} {
		b.ask(1, api.Sub{Snap: snap})
		if s, _ := sub.Decode(next(b, 1)); s.Snap != 0 {
			t.Errorf("Snap %d is asked for as %d", snap, s.Snap)
		}
	}
}

// P22.1: the newest that was decided counts, though its client hasn't heard of it, and who decided it isn't up.
func TestSnapsOfAllDecided(t *testing.T) {
	b := led(t, 1, 0, 2)
	b.ask(2, writes(1))
	b.must(world.Step{Kind: world.Poll, N: 2, A: 1}, api.OK)
	b.must(step(world.Crash, 1), api.OK)
	b.ask(1, writes(1))
	if s, _ := sub.Decode(next(b, 1)); s.Snap != 1 {
		t.Errorf("the newest is %d", s.Snap)
	}
}

// P22.1: Ask answers what Add does.
func TestAskErrors(t *testing.T) {
	b := of(t, 1, 0, 3)
	nan := math.NaN()
	for _, x := range []struct {
		s api.Sub
		e api.Errno
	}{
		{api.Sub{Snap: api.MaxNumber + 1}, api.ErrName},
		{api.Sub{Snap: math.MaxInt64, Reads: []float64{nan}}, api.ErrName},
		{api.Sub{Snap: math.MinInt64, Reads: []float64{nan}}, api.ErrKey},
		{api.Sub{Writes: []float64{nan}}, api.ErrKey},
		{api.Sub{Spans: []api.Span{{Lo: nan}}}, api.ErrSpan},
		{api.Sub{Reads: make([]float64, 1000)}, api.OK}, // all the same key
	} {
		b.must(world.Step{Kind: world.Ask, N: 2, Sub: x.s}, x.e)
	}
	for range 7 {
		b.ask(2, writes(1))
	}
	b.must(world.Step{Kind: world.Ask, N: 2, Sub: writes(1)}, api.ErrMany)
	b.must(world.Step{Kind: world.Ask, N: 2, Sub: api.Sub{Snap: api.MaxNumber + 1}}, api.ErrMany)
	b.ask(3, writes(1))
	if got := b.world.Client(2).Open(); len(got) != 8 || len(b.world.Client(1).Open()) != 0 {
		t.Errorf("open are %v", got)
	}
}

// P22.1: whom a client asks, and what it hears of that.
func TestPoll(t *testing.T) {
	b := led(t, 3, 1, 2)
	target := func(want int) {
		t.Helper()
		if got := b.world.Client(1).Target(); got != want {
			t.Fatalf("the target is %d, not %d", got, want)
		}
	}
	b.must(step(world.Poll, 1), api.ErrNone)
	b.must(world.Step{Kind: world.Poll, N: 1, A: 1}, api.ErrNone)
	b.ask(1, writes(1))
	b.must(step(world.Crash, 1), api.OK)
	for _, a := range []int{1, -1, 2, math.MinInt} {
		b.must(world.Step{Kind: world.Poll, N: 1, A: a}, api.OK) // 1 isn't up: it hears nothing
		target(1)
	}
	b.poll(1)
	target(2)
	b.must(world.Step{Kind: world.Poll, N: 1, A: 7}, api.OK) // 2 believes in 1: it doesn't hear that
	target(2)
	b.poll(1)
	target(1)
	b.poll(1)
	target(2)
	b.must(step(world.Crash, 2), api.OK)
	b.poll(1)
	target(3)
	b.must(step(world.Crash, 3), api.OK)
	b.poll(1)
	target(4)
	b.poll(1) // 4 believes in nobody
	target(1)
	b.calm(30)
	b.results(1, verdict(1, 1))
	b.must(step(world.Poll, 1), api.ErrNone)
}

// P22.1: what a client doesn't hear happens all the same, and is heard of when it asks again.
func TestPollUnheard(t *testing.T) {
	b := led(t, 1, 0, 1)
	b.ask(1, writes(1))
	for range 3 {
		b.must(world.Step{Kind: world.Poll, N: 1, A: 1}, api.OK)
		if len(b.world.Decided()) != 2 || len(b.world.History()) != 1 || len(b.world.Client(1).Open()) != 1 {
			t.Fatalf("decided is %v", b.world.Decided())
		}
	}
	b.results(1)
	b.poll(1)
	b.results(1, verdict(1, 1))
	if len(b.world.Decided()) != 2 {
		t.Errorf("decided is %v", b.world.Decided())
	}
}

// P22.1: what the leader is asked for goes to the others as letters, and is decided when they answer.
func TestLetters(t *testing.T) {
	b := led(t, 3, 0, 1)
	b.ask(1, writes(1))
	b.poll(1)
	if n := len(b.said.under); n != 2 {
		t.Fatalf("%d letters are under way", n)
	}
	decided := func(want int) {
		t.Helper()
		if got := len(b.world.Decided()); got != want {
			t.Fatalf("%d are decided, not %d", got, want)
		}
	}
	decided(1)
	b.must(step(world.Deliver, 0), api.OK) // to 2, who answers
	decided(1)
	b.must(world.Step{Kind: world.Deliver, A: 1}, api.OK) // that answer, ahead of the letter to 3
	decided(2)
	if got := b.world.Node(3).Machine().Index(); got != 1 {
		t.Errorf("3 is at %d", got)
	}
	b.must(world.Step{Kind: world.Deliver, A: -1}, api.ErrNone)
	b.must(world.Step{Kind: world.Deliver, A: 3}, api.ErrNone)
	b.deliver()
	if got := b.world.Node(3).Machine().Index(); got != 2 {
		t.Errorf("3 is at %d", got)
	}
}

// P22.1: what is lost, doubled, put aside and cut.
func TestWay(t *testing.T) {
	b := led(t, 2, 0, 1)
	for _, kind := range []int{world.Deliver, world.Drop, world.Double, world.Swap, world.Short} {
		b.must(step(kind, 1), api.ErrNone)
	}
	b.ask(1, writes(1))
	b.poll(1) // a letter to 2 is under way
	b.must(step(world.Short, 0), api.OK)
	b.must(step(world.Deliver, 0), api.OK) // it is none any more
	if last, _ := b.world.Node(2).Core().Log().Last(); last != 1 {
		t.Fatalf("2 has %d entries", last)
	}
	b.ticks(1, 2) // the same again
	b.must(step(world.Double, 0), api.OK)
	b.must(step(world.Drop, 0), api.OK)
	b.must(step(world.Drop, 0), api.OK)
	b.must(step(world.Drop, 0), api.ErrNone)
	b.ticks(1, 2)
	b.must(step(world.Double, 0), api.OK)
	b.must(world.Step{Kind: world.Short, A: 1}, api.OK)
	b.must(world.Step{Kind: world.Swap, A: 0, B: 1}, api.OK)
	b.must(world.Step{Kind: world.Swap, A: 0, B: 2}, api.ErrNone)
	b.must(world.Step{Kind: world.Swap, A: 2, B: 0}, api.ErrNone)
	b.must(step(world.Deliver, 0), api.OK) // the one that is cut
	if last, _ := b.world.Node(2).Core().Log().Last(); last != 1 {
		t.Fatalf("2 has %d entries", last)
	}
	b.deliver()
	if last, _ := b.world.Node(2).Core().Log().Last(); last != 2 || len(b.world.Decided()) != 2 {
		t.Errorf("2 has %d entries", last)
	}
}

// P22.1: a letter without bytes can't be cut, and is taken all the same.
func TestShortest(t *testing.T) {
	b := of(t, 2, 0, 1)
	b.ticks(1, 12)
	n := len(b.said.under[0].B)
	for range n {
		b.must(step(world.Short, 0), api.OK)
	}
	b.must(step(world.Short, 0), api.ErrNone)
	b.must(step(world.Deliver, 0), api.OK)
	b.must(step(world.Deliver, 0), api.ErrNone)
}

// P22.1: at most 500 letters are under way; what is sent then is lost.
func TestManyLetters(t *testing.T) {
	b := led(t, 3, 0, 1)
	b.ticks(1, 2)
	for range 498 {
		b.must(step(world.Double, 0), api.OK)
	}
	b.must(step(world.Double, 0), api.ErrNone)
	b.ticks(1, 10)
	b.must(step(world.Double, 0), api.ErrNone)
	b.must(world.Step{Kind: world.Drop, A: 499}, api.OK)
	b.must(world.Step{Kind: world.Drop, A: 499}, api.ErrNone)
	b.ticks(1, 2) // of two letters one finds room
	b.must(step(world.Double, 0), api.ErrNone)
	if got := b.said.met["a letter is lost: 500 are under way"]; got != 11 {
		t.Errorf("%d letters are lost", got)
	}
	b.deliver()
}

// P22.1: a letter for one that isn't up is taken, and gone.
func TestLetterForNobody(t *testing.T) {
	b := led(t, 2, 0, 1)
	b.ask(1, writes(1))
	b.poll(1)
	b.must(step(world.Crash, 2), api.OK)
	b.must(step(world.Deliver, 0), api.OK)
	b.must(step(world.Start, 2), api.OK)
	b.must(step(world.Deliver, 0), api.ErrNone)
	if last, _ := b.world.Node(2).Core().Log().Last(); last != 1 {
		t.Errorf("2 has %d entries", last)
	}
}

// P22.1: Change answers what the member's does.
func TestChange(t *testing.T) {
	b := led(t, 2, 2, 1)
	for _, x := range []struct {
		n, kind, m int
		e          api.Errno
	}{
		{2, 1, 3, api.ErrLead}, {4, 1, 4, api.ErrLead},
		{1, 0, 3, api.ErrArg}, {1, 4, 3, api.ErrArg}, {1, -1, 3, api.ErrArg}, {1, 3, 1, api.ErrArg},
		{1, 1, 2, api.ErrTwice}, {1, 2, 3, api.ErrNone}, {1, 3, 4, api.ErrNone},
		{1, 1, 3, api.OK}, {1, 1, 4, api.ErrBusy},
	} {
		b.must(change(x.n, x.kind, x.m), x.e)
	}
	b.deliver()
	b.must(change(1, 2, 3), api.OK)
	b.deliver()
	b.must(change(1, 3, 2), api.OK)
	b.deliver()
	c, _ := b.world.Node(3).Core().Log().Conf()
	if !slices.Equal(c.Voters, []int{1, 3}) || len(c.Learners) != 0 || b.world.Node(4).Machine().Index() != 0 {
		t.Errorf("3 knows of %v", c)
	}
	b.must(fail(1, 1), api.OK)
	b.must(change(1, 1, 4), api.ErrDown)
	b.must(change(1, 1, 4), api.ErrNone)
}

// without delivers all letters but those to one member, which are lost.
func (b *both) without(n int) {
	b.t.Helper()
	for len(b.said.under) > 0 {
		kind := world.Deliver
		if b.said.under[0].To == n {
			kind = world.Drop
		}
		b.must(step(kind, 0), api.OK)
	}
}

// P22.1: of those that lead the one of the greatest term does, if it is up, whatever their numbers are.
func TestLeader(t *testing.T) {
	for _, x := range [][2]int{{1, 2}, {2, 1}, {3, 1}, {1, 3}} {
		b := of(t, 3, 0, 1)
		leads := func(want int) {
			t.Helper()
			if got := b.world.Leader(); got != want {
				t.Fatalf("%v: %d leads, not %d", x, got, want)
			}
		}
		elder, newer := x[0], x[1]
		b.ticks(elder, 10+2*elder)
		leads(0)
		b.deliver()
		leads(elder)
		b.ticks(6-elder-newer, 10) // the third one hasn't heard of it for long
		b.ticks(newer, 10+2*newer)
		b.without(elder)
		if c := b.world.Node(elder).Core(); c.Role() != 3 || c.Term() != 1 || b.world.Node(newer).Core().Term() != 2 {
			t.Fatalf("%v: the elder one has term %d, role %d", x, c.Term(), c.Role())
		}
		leads(newer)
		b.must(step(world.Crash, newer), api.OK)
		leads(elder)
		b.must(step(world.Start, newer), api.OK)
		leads(elder)
		b.must(step(world.Crash, elder), api.OK)
		leads(0)
	}
}
