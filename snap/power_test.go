package snap_test

import (
	"math/rand/v2"
	"testing"

	"quillet/api"
	"quillet/snap"
)

// lived is what promise 8.2 asks of the next Open; zeros stand for no snapshot.
type lived struct {
	kept  snap.Snap // by the last Put that answered OK
	under snap.Snap // by the one under way
}

// play does calls until one fails, and tells how many were done.
func (x *both) play(t *testing.T, l *lived, calls []call) int {
	t.Helper()
	for i, c := range calls {
		switch e := x.must(t, c); {
		case e == api.OK && !c.open:
			*l = lived{c.Snap, c.Snap}
		case e != api.OK && e != api.ErrArg && e != api.ErrOld:
			if !c.open {
				l.under = c.Snap
			}
			return i
		}
	}
	return len(calls)
}

func (l *lived) check(t *testing.T, st *snap.Store) {
	t.Helper()
	got, ok := st.Last()
	if ok == empty(got) || !same(got, l.kept) && !same(got, l.under) {
		t.Fatalf("Open has %s, %v, neither %s nor %s", tell(got), ok, tell(l.kept), tell(l.under))
	}
	*l = lived{got, got}
}

// keeps is the n-th choice of which of some sectors are kept.
func keeps(n, of int) []bool {
	out := make([]bool, of)
	for i := range out {
		out[i] = n>>i&1 == 1
	}
	return out
}

// reopen opens, with the power going at the n-th step, until that is done; and once more, which is no step. It tells whether the first did.
func (x *both) reopen(t *testing.T, l *lived, n int, keep []bool) bool {
	t.Helper()
	x.fail(n)
	first := x.must(t, open()) == api.OK
	if !first {
		x.crash(t, keep)
		x.ok(t, open())
	}
	l.check(t, x.st)
	x.fail(1)
	x.ok(t, open())
	l.check(t, x.st)
	x.fail(0)
	return first
}

// scripts have few sectors loose at a time.
func scripts() map[string][]call {
	wrong := of(9, 3)
	wrong.Conf.Voters = []int{2, 1}
	return map[string][]call{
		"one":             {open(), put(of(3, 40))},
		"two":             {open(), put(of(3, 40)), put(of(5, 30))},
		"many":            {open(), put(of(1, 0)), put(of(2, 60)), put(of(3, 0)), put(of(1<<40, 90))},
		"two writes":      {open(), put(of(3, 40)), put(of(5, 240)), put(of(6, 250))},
		"refused between": {open(), put(wrong), put(of(3, 40)), put(of(3, 30)), put(of(2, 3)), put(of(5, 30)), put(wrong), put(of(5, 3))},
		"opened between":  {open(), put(of(3, 40)), open(), put(of(5, 30)), open(), open(), put(of(6, 3))},
		"zeros":           {open(), put(snap.Snap{Index: 3, Data: make([]byte, 100)}), put(snap.Snap{Index: 5, Data: make([]byte, 150)})},
		"a file as data":  {open(), put(of(3, 40)), put(snap.Snap{Index: 5, Data: append(make([]byte, 11), fileOf(of(4, 9))...)})},
	}
}

// P8.1, P8.2, P8.3: the power goes at every step, with every choice of kept sectors; then at every step of the Open behind that.
func TestPowerGoesAtEveryStep(t *testing.T) {
	starts := map[string]map[string][]byte{
		"nothing":   nil,
		"a few":     {nameFor(1): fileOf(of(1, 20)), nameFor(2): fileOf(of(2, 20)), "snap.tmp": fileOf(of(3, 9)), nameFor(7): fileOf(of(3, 9))},
		"wrong one": {nameFor(3): fileOf(of(3, 20))[:40], nameFor(5): fileOf(of(6, 20))},
	}
	for what, calls := range scripts() {
		for start, files := range starts {
			t.Run(what+" behind "+start, func(t *testing.T) {
				var had snap.Snap
				if b := files[nameFor(2)]; b != nil {
					had, _ = snapOf(b)
				}
				for n, done := 1, -1; done < len(calls); n++ {
					for choice, loose := 0, 0; choice < 1<<loose; choice++ {
						for again, ended := 1, false; !ended; again++ {
							l := lived{had, had}
							x := newBoth()
							x.lay(t, files, true)
							x.fail(n)
							done = x.play(t, &l, calls)
							loose = x.d.Loose()
							if loose > 9 {
								t.Fatalf("%d sectors are loose: too many for this test", loose)
							}
							x.crash(t, keeps(choice, loose))
							ended = x.reopen(t, &l, again, keeps(choice, loose))
						}
					}
				}
			})
		}
	}
}

// P8.2: many sectors are loose; each one of them is lost alone, or kept alone, or all from it on are lost, or all ahead; at every step.
func TestLongOnesAreLostInPart(t *testing.T) {
	s := of(5, 2500)
	steps := stepsOf(len(fileOf(s)), true)
	for n := 1; n <= steps; n++ {
		for i, loose := 0, 0; i <= loose; i++ {
			for _, kept := range []func(k int) bool{func(k int) bool { return k != i }, func(k int) bool { return k == i }, func(k int) bool { return k < i }, func(k int) bool { return k >= i }} {
				var l lived
				x := opened(t)
				x.play(t, &l, []call{put(of(3, 40))})
				x.fail(n)
				if x.play(t, &l, []call{put(s)}) != 0 {
					t.Fatalf("the power didn't go at step %d", n)
				}
				loose = x.d.Loose()
				keep := make([]bool, loose)
				for k := range keep {
					keep[k] = kept(k)
				}
				x.crash(t, keep)
				x.reopen(t, &l, 1, nil)
				want := int64(3)
				if n == steps {
					want = 5
				}
				if x.index() != want {
					t.Fatalf("the power went at step %d of %d: %d", n, steps, x.index())
				}
			}
		}
	}
}

// P8.2: the longest one, with the power gone at every step.
func TestTheLongest(t *testing.T) {
	s := of(1<<40, 32768)
	s.Term, s.Conf = 1<<40, conf([]int{1, 2, 3, 4, 5, 6, 7})
	steps := stepsOf(len(fileOf(s)), true)
	for n := 1; n <= steps+1; n++ {
		var l lived
		x := opened(t)
		x.play(t, &l, []call{put(of(3, 32768))})
		x.fail(n)
		x.play(t, &l, []call{put(s)})
		keep := make([]bool, x.d.Loose())
		for i := range keep {
			keep[i] = n%3 != 0
		}
		x.crash(t, keep)
		x.reopen(t, &l, 1, keep)
		if (x.index() == 1<<40) != (n >= steps) {
			t.Fatalf("the power went at step %d of %d: %d", n, steps, x.index())
		}
	}
}

// P8.1: whatever is loose when it is opened; Open makes nothing safe.
func TestLooseFiles(t *testing.T) {
	files := map[string][]byte{nameFor(3): fileOf(of(3, 9)), nameFor(5): fileOf(of(5, 50)), "snap.tmp": make([]byte, 40), "x": make([]byte, 40)}
	for choice := range 1 << 9 {
		for n := range 3 {
			x := newBoth()
			x.lay(t, files, false)
			x.fail(n)
			x.must(t, open())
			loose := []int{5, 9, 7}[n]
			if x.d.Loose() != loose {
				t.Fatalf("%d loose, not %d", x.d.Loose(), loose)
			}
			x.crash(t, keeps(choice, loose))
			x.ok(t, open())
			x.ok(t, put(of(6, 9)))
			x.crash(t, nil)
			x.ok(t, open())
			if x.index() != 6 {
				t.Fatalf("%d", x.index())
			}
		}
	}
}

// P8.1, P8.2: long runs with many losses of power.
func TestLongRuns(t *testing.T) {
	sizes := []int{0, 1, 40, 220, 221, 230, 250, 500, 2048, 2100}
	for seed := range 200 {
		r := rand.New(rand.NewPCG(8, uint64(seed)))
		x, l := newBoth(), &lived{}
		x.ok(t, open())
		for range 30 {
			x.fail(r.IntN(20))
			for x.st != nil {
				c := put(of(max(0, x.index()+r.Int64N(6)-2), sizes[r.IntN(len(sizes))]))
				c.Term = r.Int64N(1<<20) - 1000
				c.open = r.IntN(6) == 0
				if x.play(t, l, []call{c}) == 0 || r.IntN(20) == 0 {
					break
				}
			}
			keep := make([]bool, x.d.Loose())
			odds := r.IntN(20)
			for i := range keep {
				keep[i] = r.IntN(20) < odds || odds == 19
			}
			x.crash(t, keep)
			x.reopen(t, l, r.IntN(3), keep)
		}
	}
}
