package world_test

import (
	"bytes"
	"fmt"
	"slices"
	"testing"

	"quillet/api"
	"quillet/cert"
	"quillet/conf"
	"quillet/node"
	"quillet/raft"
	"quillet/serial"
	"quillet/world"
)

// watched is a World that is asked again and again whether its promises hold.
type watched struct {
	t    *testing.T
	seen seen
	done []world.Step
	told map[[2]int64]api.Verdict // what a client has heard of a number
	was  []world.Decision
}

func watch(t *testing.T, c world.Conf) *watched {
	w, e := world.New(c)
	if e != api.OK {
		t.Fatal(e)
	}
	return &watched{t: t, seen: seen{c, w}, told: map[[2]int64]api.Verdict{}}
}

func (x *watched) do(s world.Step) api.Errno {
	x.done = append(x.done, s)
	return x.seen.world.Do(s)
}

func (x *watched) fatal(what ...any) {
	x.t.Helper()
	x.t.Fatalf("%+v, behind %d steps: %s", x.seen.c, len(x.done), fmt.Sprintln(what...))
}

// holds asks for what must hold behind every script.
func (x *watched) holds() {
	x.t.Helper()
	w := x.seen.world
	if w.Parted() {
		x.fatal("members have parted")
	}
	x.stands()
	x.heard()
	x.inOrder(w.History())
}

// stands asks for P22.5 and P6: what was decided stays, and each number is decided once.
func (x *watched) stands() {
	x.t.Helper()
	now := x.seen.world.Decided()
	if len(now) < len(x.was) || !slices.Equal(now[:len(x.was)], x.was) {
		x.fatal("decided was", x.was, "and is", now)
	}
	x.was = now
	fresh := map[[2]int64]int64{}
	for i, d := range now {
		key := [2]int64{d.Answer.Session, d.Answer.Seq}
		if d.Index != int64(i+1) {
			x.fatal("at", i+1, "nothing is decided, but at", d.Index)
		}
		if d.Answer.Fresh && fresh[key] != 0 {
			x.fatal(key, "is decided at", fresh[key], "and at", d.Index)
		}
		if d.Answer.Fresh {
			fresh[key] = d.Index
		}
	}
}

// heard asks for P22.2: all that a client hears of a number is what was decided of it, and stays.
func (x *watched) heard() {
	x.t.Helper()
	decided := map[[2]int64]api.Verdict{}
	for _, d := range x.was {
		if d.Answer.Fresh {
			decided[[2]int64{d.Answer.Session, d.Answer.Seq}] = d.Answer.Verdict
		}
	}
	for n := 1; n <= x.seen.c.Clients; n++ {
		for _, r := range x.seen.world.Client(n).Results() {
			key := [2]int64{int64(n), r.Seq}
			if v, ok := decided[key]; !ok || v != r.Verdict {
				x.fatal("of", key, "was heard", r.Verdict, "and decided", v, ok)
			}
			if v, ok := x.told[key]; ok && v != r.Verdict {
				x.fatal("of", key, "was told", v, "and now", r.Verdict)
			}
			x.told[key] = r.Verdict
		}
	}
}

// inOrder asks for P22.3. Layer 12 knows histories of at most 64: of a longer one it is asked for the beginning.
func (x *watched) inOrder(h []api.Done) {
	x.t.Helper()
	h = h[:min(64, len(h))]
	order, ok := serial.Order(h)
	if !ok || len(order) != len(h) || !serial.Reads(h, order) {
		x.fatal("there is no order of", h, "stuck are", serial.Stuck(h))
	}
	for i, d := range h {
		if d.Num != int64(i+1) {
			x.fatal("the history is", h)
		}
	}
}

// calm asks for P22.4.
func (x *watched) calm() {
	x.t.Helper()
	w := x.seen.world
	asked := 0
	for n := 1; n <= x.seen.c.Clients; n++ {
		asked += len(w.Client(n).Open()) + len(w.Client(n).Results())
	}
	w.Calm(200)
	x.holds()
	answered := 0
	for n := 1; n <= x.seen.c.Clients; n++ {
		if open := w.Client(n).Open(); len(open) > 0 {
			x.fatal("client", n, "has open", open)
		}
		answered += len(w.Client(n).Results())
	}
	if answered != asked {
		x.fatal("of", asked, "are answered", answered)
	}
	x.atOne()
}

// atOne asks that one leads, and that all who belong to its configuration have applied the same.
func (x *watched) atOne() {
	x.t.Helper()
	w := x.seen.world
	var leaders []int
	for n := 1; n <= x.seen.all(); n++ {
		if w.Node(n) == nil {
			x.fatal(n, "isn't up")
		}
		if w.Node(n).Core().Role() == raft.Leader {
			leaders = append(leaders, n)
		}
	}
	if !slices.Equal(leaders, []int{w.Leader()}) {
		x.fatal("those that lead are", leaders)
	}
	lead := w.Node(w.Leader())
	last, _ := lead.Core().Log().Last()
	if last != lead.Machine().Index() || last != int64(len(x.was)) {
		x.fatal("of", last, "entries", lead.Machine().Index(), "are applied, and", len(x.was), "decided")
	}
	c, _ := lead.Core().Log().Conf()
	for _, n := range append(conf.Others(c, 0), w.Leader()) {
		m := w.Node(n).Machine()
		if m.Index() != last || !bytes.Equal(m.Bytes(), lead.Machine().Bytes()) {
			x.fatal(n, "is at", m.Index(), "the leader at", last)
		}
		x.knows(n)
	}
}

// knows asks of a member for the last numbers that were decided.
func (x *watched) knows(n int) {
	x.t.Helper()
	highest := map[int64]int64{}
	for _, d := range x.was {
		highest[d.Answer.Session] = max(highest[d.Answer.Session], d.Answer.Seq)
	}
	for _, d := range x.was {
		a := d.Answer
		if !a.Fresh || a.Seq <= highest[a.Session]-8 {
			continue
		}
		if v, e := x.seen.world.Node(n).Machine().Look(a.Session, a.Seq); v != a.Verdict || e != api.ErrTwice {
			x.fatal(n, "knows of", a, "the verdict", v, e)
		}
	}
}

// P22.2, P22.3, P22.4, P22.5: scripts of 150 steps, each with a calm behind it, one behind the other.
func TestScripts(t *testing.T) {
	committed := make([]int, 8)
	t.Run("runs", func(t *testing.T) {
		for i := range committed {
			t.Run(fmt.Sprint(i), func(t *testing.T) {
				t.Parallel()
				for seed := range 250 {
					d := seeded(224, 1000*i+seed)
					x := watch(t, d.conf())
					if d.IntN(3) > 0 {
						x.seen.world.Calm(14 + d.IntN(20))
					}
					for range 1 + d.IntN(3) {
						d.script(x.seen, 75, x.do)
						x.holds()
						d.script(x.seen, 75, x.do)
						x.holds()
						x.calm()
					}
					committed[i] += len(x.seen.world.History())
				}
			})
		}
	})
	for i, n := range committed {
		if n < 1000 {
			t.Errorf("run %d: %d have committed alone", i, n)
		}
	}
}

// P22.2, P22.3, P22.4: steps of all kinds alike, with anything in them.
func TestScriptsOfAnything(t *testing.T) {
	for i := range 8 {
		t.Run(fmt.Sprint(i), func(t *testing.T) {
			t.Parallel()
			for seed := range 60 {
				d := seeded(225, 1000*i+seed)
				x := watch(t, d.conf())
				for range 2 {
					for range 150 {
						x.do(world.Step{Kind: 1 + d.IntN(12), N: 1 + d.IntN(x.seen.all()), A: d.IntN(5), B: d.IntN(8), Sub: d.sub(), Keep: d.keep()})
					}
					x.holds()
					x.calm()
				}
			}
		})
	}
}

// big is a submission with as many keys as may be, so that snapshots have many pieces.
func (d dice) big() api.Sub {
	s := api.Sub{Snap: -1 - d.Int64N(3)}
	for i := range 16 {
		s.Reads = append(s.Reads, float64(100*i+d.IntN(40)))
		s.Writes = append(s.Writes, float64(100*i+d.IntN(40))+0.5)
		if i < 8 {
			lo := float64(100*i+d.IntN(40)) + 0.25
			s.Spans = append(s.Spans, api.Span{Lo: lo, Hi: lo + 0.1})
		}
	}
	return s
}

// P22.2, P22.4: great submissions and great snapshots, of which members that come lack all.
func TestScriptsOfMuch(t *testing.T) {
	for i := range 8 {
		t.Run(fmt.Sprint(i), func(t *testing.T) {
			t.Parallel()
			for seed := range 4 {
				d := seeded(226, 1000*i+seed)
				c := d.conf()
				c.Node = node.Conf{Cert: cert.Conf{Keep: 32, Old: 64}, Keep: 1 + d.IntN(4)*d.IntN(4)}
				x := watch(t, c)
				x.seen.world.Calm(20)
				for range 20 {
					for n := range c.Clients {
						x.do(world.Step{Kind: world.Ask, N: n + 1, Sub: d.big()})
					}
					x.seen.world.Calm(2)
				}
				x.holds()
				d.script(x.seen, 150, func(s world.Step) api.Errno {
					if s.Kind == world.Ask {
						s.Sub = d.big()
					}
					return x.do(s)
				})
				x.holds()
				x.calm()
			}
		})
	}
}

// full opens as much as may be.
func (x *watched) full() {
	for n := 1; n <= x.seen.c.Clients; n++ {
		for k := range 8 {
			x.do(world.Step{Kind: world.Ask, N: n, Sub: writes(float64(k))})
		}
	}
}

// P22.4: the worst that may be at a calm's beginning: nobody has power, none can, too much is under way, all that may be is open.
func TestWorstCalms(t *testing.T) {
	each := func(x *watched, s world.Step) {
		for s.N = 1; s.N <= x.seen.all(); s.N++ {
			x.do(s)
		}
	}
	for name, worst := range map[string]func(x *watched){
		"nothing": func(x *watched) {},
		"no power": func(x *watched) {
			each(x, world.Step{Kind: world.Crash, Keep: []bool{false, true, false, true}})
		},
		"about to fail": func(x *watched) { each(x, world.Step{Kind: world.Fail, A: 2}) },
		"the leader has failed": func(x *watched) {
			n := max(1, x.seen.world.Leader())
			x.do(fail(n, 3))
			for range 20 {
				x.do(step(world.Tick, n))
				x.do(step(world.Poll, 1))
			}
		},
		"all have failed": func(x *watched) {
			each(x, world.Step{Kind: world.Fail, A: 1})
			for range 8 {
				each(x, step(world.Tick, 0))
				x.do(step(world.Deliver, 0))
			}
		},
		"many letters": func(x *watched) {
			each(x, step(world.Tick, 0))
			each(x, step(world.Tick, 0))
			for i := range 100 {
				x.do(world.Step{Kind: world.Double, A: i})
			}
		},
		"a change under way": func(x *watched) {
			n := max(1, x.seen.world.Leader())
			x.do(change(n, conf.Learn, x.seen.all()))
			x.do(step(world.Deliver, 0))
			x.do(change(n, conf.Promote, x.seen.all()))
			x.do(step(world.Deliver, 0))
			x.do(step(world.Crash, n))
		},
		"letters that are cut": func(x *watched) {
			for range 6 {
				each(x, step(world.Tick, 0))
				x.do(step(world.Short, 0))
				x.do(world.Step{Kind: world.Short, A: 1})
			}
		},
	} {
		t.Run(name, func(t *testing.T) {
			t.Parallel()
			for nodes := 1; nodes <= 5; nodes++ {
				for _, before := range []int{0, 12, 40} {
					x := watch(t, small(nodes, nodes%3, 3))
					x.seen.world.Calm(before)
					x.full()
					worst(x)
					x.holds()
					x.calm()
				}
			}
		})
	}
}

// busy is a script in which a cluster decides something; what it does is the same at each run.
func busy(x *watched) []func() {
	var out []func()
	add := func(s world.Step) { out = append(out, func() { x.do(s) }) }
	for i := range 9 {
		add(world.Step{Kind: world.Ask, N: 1 + i%2, Sub: writes(float64(i % 4))})
		for n := 1; n <= x.seen.all(); n++ {
			add(step(world.Tick, n))
			add(step(world.Tick, n))
		}
		add(step(world.Poll, 1+i%2))
		for range 9 * x.seen.all() {
			add(step(world.Deliver, 0))
		}
		add(step(world.Poll, 1+i%2))
	}
	return out
}

// P22.5, P4: wherever the power of all goes, with whichever sectors kept, what was decided up to there is what all know.
func TestPowerEverywhere(t *testing.T) {
	keeps := [][]bool{nil, slices.Repeat([]bool{true}, 64), slices.Repeat([]bool{true, false}, 32), slices.Repeat([]bool{false, true}, 32)}
	for nodes := 1; nodes <= 3; nodes++ {
		for k, keep := range keeps {
			t.Run(fmt.Sprintf("%d, %d", nodes, k), func(t *testing.T) {
				t.Parallel()
				most := 0
				for end := 0; ; end++ {
					x := watch(t, small(nodes, 0, 2))
					x.seen.world.Calm(14)
					script := busy(x)
					if end > len(script) {
						break
					}
					for _, next := range script[:end] {
						next()
					}
					x.holds()
					most = max(most, len(x.seen.world.History()))
					for n := 1; n <= nodes; n++ {
						x.do(world.Step{Kind: world.Crash, N: n, Keep: keep})
					}
					x.calm()
				}
				if most < 3 {
					t.Errorf("%d have committed at most", most)
				}
			})
		}
	}
}

// P22.5, P4: at whichever step of a disk the power of a member goes, and of all others behind it, what was decided stays.
func TestFailEverywhere(t *testing.T) {
	for nodes := 1; nodes <= 3; nodes++ {
		for n := 1; n <= nodes; n++ {
			t.Run(fmt.Sprintf("%d of %d", n, nodes), func(t *testing.T) {
				t.Parallel()
				down := 0
				for at := 1; at <= 90; at++ {
					for _, keep := range [][]bool{nil, {true}, {false, true}, {true, true, true, true}} {
						x := watch(t, small(nodes, 0, 2))
						x.seen.world.Calm(14)
						x.do(fail(n, at))
						for _, next := range busy(x) {
							next()
						}
						if x.seen.world.Node(n) == nil {
							down++
						}
						x.holds()
						for m := 1; m <= nodes; m++ {
							x.do(world.Step{Kind: world.Crash, N: m, Keep: keep})
							if e := x.do(step(world.Start, m)); e != api.OK {
								x.fatal("Start", m, "=", e)
							}
						}
						x.calm()
					}
				}
				if down < 100 {
					t.Errorf("it has failed %d times alone", down)
				}
			})
		}
	}
}

// P22.3, P6: a long life, of which more has committed than layer 12 takes: what is decided later fits what is known of the elder ones.
func TestLongLife(t *testing.T) {
	for i := range 4 {
		t.Run(fmt.Sprint(i), func(t *testing.T) {
			t.Parallel()
			d := seeded(227, i)
			x := watch(t, world.Conf{Nodes: 3, Spare: 1, Clients: 3, Node: node.Conf{Cert: cert.Conf{Keep: 1 + i, Old: 4 * i}, Keep: 7}})
			x.seen.world.Calm(20)
			for range 160 {
				d.script(x.seen, 60, x.do)
				for n := range 3 {
					x.do(world.Step{Kind: world.Ask, N: n + 1, Sub: d.sub()})
				}
				x.seen.world.Calm(30)
				x.holds()
			}
			x.calm()
			h := x.seen.world.History()
			if len(h) < 100 {
				t.Errorf("%d have committed alone", len(h))
			}
			x.acyclic(h)
		})
	}
}

// acyclic asks for an order of a history of any length, by layer 12's words on edges.
func (x *watched) acyclic(h []api.Done) {
	x.t.Helper()
	waits := make([]int, len(h))
	for i := range h {
		for k := range h {
			if i != k && edge(h[i], h[k]) {
				waits[k]++
			}
		}
	}
	for range h {
		i := slices.Index(waits, 0)
		if i < 0 {
			x.fatal("there is no order of", len(h))
		}
		waits[i] = -1
		for k := range h {
			if i != k && edge(h[i], h[k]) {
				waits[k]--
			}
		}
	}
}

func reads(s api.Sub, key float64) bool {
	return slices.Contains(s.Reads, key) || slices.ContainsFunc(s.Spans, func(x api.Span) bool { return x.Lo <= key && key <= x.Hi })
}

// edge tells whether a must have been done ahead of b.
func edge(a, b api.Done) bool {
	for _, key := range a.Sub.Writes {
		if slices.Contains(b.Sub.Writes, key) && a.Num < b.Num || reads(b.Sub, key) && b.Sub.Snap >= a.Num {
			return true
		}
	}
	return slices.ContainsFunc(b.Sub.Writes, func(key float64) bool { return reads(a.Sub, key) && a.Sub.Snap < b.Num })
}
