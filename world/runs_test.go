package world_test

import (
	"fmt"
	"math/rand/v2"
	"slices"
	"testing"

	"quillet/api"
	"quillet/cert"
	"quillet/conf"
	"quillet/node"
	"quillet/world"
)

// dice makes scripts of steps that mostly lead somewhere.
type dice struct{ *rand.Rand }

func seeded(of, seed int) dice { return dice{rand.New(rand.NewPCG(uint64(of), uint64(seed)))} }

func (d dice) conf() world.Conf {
	return world.Conf{Nodes: 1 + d.IntN(5), Spare: d.IntN(3), Clients: 1 + d.IntN(3), Node: node.Conf{Cert: cert.Conf{Keep: 1 + d.IntN(8), Old: d.IntN(20)}, Keep: 1 + d.IntN(10)}}
}

func (d dice) keys(most int) []float64 {
	var out []float64
	for range d.IntN(most + 1) {
		out = append(out, float64(d.IntN(6)))
	}
	return out
}

// sub is a submission; there are few keys, so that many meet.
func (d dice) sub() api.Sub {
	s := api.Sub{Snap: -1 - d.Int64N(6), Reads: d.keys(2), Writes: d.keys(2)}
	switch d.IntN(12) {
	case 0, 1, 2:
		lo := float64(d.IntN(6))
		s.Spans = []api.Span{{Lo: lo, Hi: lo + float64(d.IntN(3)), HiOpen: d.IntN(2) == 0}}
	case 3:
		s.Snap = d.Int64N(12)
	}
	return s
}

func (d dice) keep() []bool {
	out := make([]bool, d.IntN(24))
	often := d.IntN(4)
	for i := range out {
		out[i] = d.IntN(4) < often
	}
	return out
}

// at is a letter's place, most of the time among the first.
func (d dice) at() int { return d.IntN(6)*d.IntN(4) - d.IntN(20)/19 }

// seen is what a script looks at, to be near to what there is.
type seen struct {
	c     world.Conf
	world *world.World
}

func (s seen) all() int { return s.c.Nodes + s.c.Spare }

// member is one of them, the leader often.
func (d dice) member(s seen) int {
	if leader := s.world.Leader(); leader != 0 && d.IntN(3) == 0 {
		return leader
	}
	return 1 + d.IntN(s.all())
}

func (d dice) change(s seen) world.Step {
	leader := s.world.Leader()
	if leader == 0 {
		leader = d.member(s)
	}
	if x := s.world.Node(leader); x != nil && d.IntN(2) == 0 {
		if c, _ := x.Core().Log().Conf(); len(c.Learners) > 0 {
			return change(leader, conf.Promote, c.Learners[0])
		}
	}
	return change(leader, 1+d.IntN(3), 1+d.IntN(s.all()))
}

// steps are some that belong together, at least one.
func (d dice) steps(s seen) []world.Step {
	n := d.member(s)
	one := func(x world.Step) []world.Step { return []world.Step{x} }
	client := 1 + d.IntN(s.c.Clients)
	switch k := d.IntN(100); {
	case k < 22:
		return slices.Repeat(one(step(world.Tick, n)), 1+d.IntN(14))
	case k < 30:
		return one(world.Step{Kind: world.Ask, N: client, Sub: d.sub()})
	case k < 42:
		return one(world.Step{Kind: world.Poll, N: client, A: d.IntN(3) / 2})
	case k < 50:
		return one(d.change(s))
	case k < 54:
		return one(fail(n, 1+d.IntN(25)))
	case k < 58:
		return one(world.Step{Kind: world.Crash, N: n, Keep: d.keep()})
	case k < 63:
		return one(step(world.Start, 1+d.IntN(s.all())))
	case k < 71:
		return one(world.Step{Kind: []int{world.Drop, world.Double, world.Swap, world.Short}[d.IntN(4)], A: d.at(), B: d.at()})
	case k < 79:
		return one(world.Step{Kind: world.Deliver, A: d.at()})
	case k < 80:
		return one(world.Step{Kind: d.IntN(15) - 1, N: d.IntN(9), A: d.IntN(9), B: d.IntN(9), Sub: d.sub()})
	}
	return slices.Repeat(one(step(world.Deliver, 0)), 1+d.IntN(12))
}

// script does so many steps.
func (d dice) script(s seen, length int, do func(world.Step) api.Errno) {
	for done := 0; done < length; {
		for _, x := range d.steps(s) {
			if done == length {
				return
			}
			do(x)
			done++
		}
	}
}

// words are all that said counts, but what a run has rarely.
func words() []string {
	out := []string{"down: not up any more", "applied again", "decided", "asks one that isn't up", "a Snap that would be below 0", "a letter for one that isn't up", "started in the calm", "asks: 0", "asks: 50", "asks: 180", "asks: 181"}
	for kind, codes := range map[int][]api.Errno{
		world.Tick:    {api.OK, api.ErrNone},
		world.Deliver: {api.OK, api.ErrNone},
		world.Drop:    {api.OK, api.ErrNone},
		world.Double:  {api.OK, api.ErrNone},
		world.Swap:    {api.OK, api.ErrNone},
		world.Short:   {api.OK, api.ErrNone},
		world.Crash:   {api.OK},
		world.Start:   {api.OK, api.ErrNone, api.ErrDown},
		world.Fail:    {api.OK, api.ErrNone},
		world.Ask:     {api.OK, api.ErrMany},
		world.Poll:    {api.OK, api.ErrNone},
		world.Change:  {api.OK, api.ErrArg, api.ErrNone, api.ErrTwice, api.ErrDown, api.ErrLead, api.ErrBusy},
	} {
		for _, e := range codes {
			out = append(out, fmt.Sprintf("%d: %d", kind, e))
		}
	}
	return out
}

// P22.1: long runs, in which all that a World tells is as it is said, step by step, and the chapter's words are met.
func TestLongRuns(t *testing.T) {
	const runs = 8
	mets := make([]map[string]int, runs)
	t.Run("runs", func(t *testing.T) {
		for i := range runs {
			mets[i] = map[string]int{}
			t.Run(fmt.Sprint(i), func(t *testing.T) {
				t.Parallel()
				for seed := range 100 {
					longRun(t, seeded(22, 1000*i+seed), mets[i])
				}
			})
		}
	})
	met := map[string]int{}
	for _, some := range mets {
		for word, n := range some {
			met[word] += n
		}
	}
	for _, word := range words() {
		if met[word] < 5 {
			t.Errorf("met %d times alone: %s", met[word], word)
		}
	}
	if met["parted"] != 0 {
		t.Error("members have parted")
	}
}

func longRun(t *testing.T, d dice, met map[string]int) {
	b := newBoth(t, d.conf(), met)
	for range 3 {
		b.calm(d.IntN(25))
		d.script(seen{b.c, b.world}, 100, b.do)
		b.same()
	}
	b.calm(60)
	b.same()
}

// chosen are steps of which every order is tried.
func chosen() []world.Step {
	return []world.Step{
		step(world.Tick, 1), step(world.Tick, 2), step(world.Deliver, 0), {Kind: world.Deliver, A: 1}, step(world.Drop, 0), step(world.Double, 0), {Kind: world.Swap, B: 1}, step(world.Short, 0),
		{Kind: world.Crash, N: 1, Keep: []bool{true}}, step(world.Crash, 2), step(world.Start, 1), step(world.Start, 2), fail(1, 2), fail(2, 1),
		{Kind: world.Ask, N: 1, Sub: writes(1)}, step(world.Poll, 1), {Kind: world.Poll, N: 1, A: 1}, change(1, conf.Learn, 3), change(1, conf.Remove, 2),
	}
}

// starts are worlds that are some way on.
func starts() []func(t *testing.T) *both {
	begun := func(t *testing.T, steps ...world.Step) *both {
		b := of(t, 2, 1, 1)
		for range 12 {
			b.world.Do(step(world.Tick, 1))
			b.said.do(step(world.Tick, 1))
		}
		for _, s := range steps {
			b.world.Do(s)
			b.said.do(s)
		}
		return b
	}
	deliver := slices.Repeat([]world.Step{step(world.Deliver, 0)}, 12)
	asked := world.Step{Kind: world.Ask, N: 1, Sub: writes(1)}
	return []func(t *testing.T) *both{
		func(t *testing.T) *both { return begun(t) },
		func(t *testing.T) *both {
			return begun(t, append(slices.Clone(deliver), asked, step(world.Poll, 1))...)
		},
		func(t *testing.T) *both {
			return begun(t, append(slices.Clone(deliver), asked, fail(1, 3), step(world.Tick, 1), step(world.Tick, 1), step(world.Poll, 1))...)
		},
	}
}

// P22.1: every order of three of the chosen steps, each as often as may be, from all starts, and a calm behind it.
func TestEveryOrder(t *testing.T) {
	for _, start := range starts() {
		for _, first := range chosen() {
			t.Run("", func(t *testing.T) {
				t.Parallel()
				for _, second := range chosen() {
					for _, third := range chosen() {
						b := start(t)
						for _, s := range []world.Step{first, second, third} {
							b.do(s)
						}
						b.calm(2)
					}
				}
			})
		}
	}
}
