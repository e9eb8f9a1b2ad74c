package hard_test

import (
	"math/rand/v2"
	"testing"

	"quillet/api"
)

// lived is what promise 7.2 asks of the next Open.
type lived struct {
	kept  pair // by the last Save that answered OK
	under pair // by the one under way
}

// play does calls until one fails, and tells how many were done.
func (x *both) play(t *testing.T, l *lived, calls []call) int {
	t.Helper()
	for i, c := range calls {
		switch e := x.must(t, c); {
		case e == api.OK && !c.open:
			*l = lived{c.pair, c.pair}
		case e != api.OK && e != api.ErrArg:
			if !c.open {
				l.under = c.pair
			}
			return i
		}
	}
	return len(calls)
}

func (l *lived) check(t *testing.T, got pair) {
	t.Helper()
	if got != l.kept && got != l.under {
		t.Fatalf("Open has %v, neither %v nor %v", got, l.kept, l.under)
	}
	*l = lived{got, got}
}

// keeps is the n-th choice of which of some sectors are kept.
func keeps(n, of int) []bool {
	out := make([]bool, of)
	for i := range out {
		out[i] = n>>i&1 == 1
	}
	return out
}

// reopen opens again and again, with the power going at the n-th step, until that is done; and once more. It tells whether the first did.
func (x *both) reopen(t *testing.T, l *lived, n, choice int) bool {
	t.Helper()
	x.fail(n)
	first := x.must(t, call{open: true}) == api.OK
	if !first {
		x.crash(t, keeps(choice, x.d.Loose()))
		x.ok(t, call{open: true})
	}
	l.check(t, x.kept())
	x.fail(1)
	x.ok(t, call{open: true})
	l.check(t, x.kept())
	x.fail(0)
	return first
}

func scripts() map[string][]call {
	open := call{open: true}
	return map[string][]call{
		"one":               {open, save(3, 2)},
		"two":               {open, save(3, 2), save(4, 0)},
		"many":              {open, save(1, 1), save(2, 0), save(2, 3), save(3, 0), save(1<<40, 7)},
		"the same between":  {open, save(0, 0), save(3, 2), save(3, 2), save(4, 0), save(4, 0)},
		"refused between":   {open, save(-1, 0), save(3, 2), save(3, 8), save(4, 0), save(1<<40+1, 0)},
		"opened between":    {open, save(3, 2), open, save(4, 0), open, open, save(4, 1)},
		"back":              {open, save(9, 1), save(3, 2), save(0, 0), save(9, 1)},
		"longer ones":       {open, save(1, 0), save(1<<40, 1), save(1, 1), save(1<<20, 1)},
		"one that is there": {open, save(5, 6), save(5, 0)},
	}
}

// P7.1, P7.2, P7.3: the power goes at every step, with every choice of kept sectors; then at every step of the Open behind that.
func TestPowerGoesAtEveryStep(t *testing.T) {
	starts := map[string]map[string][]byte{
		"nothing":         nil,
		"a pair":          {"hard": pair{5, 6}.file()},
		"a pair, another": {"hard": pair{5, 6}.file(), "hard.tmp": pair{6, 0}.file()},
		"no pair":         {"hard": []byte("no")},
		"another alone":   {"hard.tmp": pair{6, 0}.file()},
	}
	for what, calls := range scripts() {
		for start, files := range starts {
			t.Run(what+" behind "+start, func(t *testing.T) {
				for n, done := 1, -1; done < len(calls); n++ {
					for choice, loose := 0, 0; choice < 1<<loose; choice++ {
						for again, ended := 1, false; !ended; again++ {
							l := lived{pairOf(files["hard"]), pairOf(files["hard"])}
							x := newBoth()
							x.put(t, files, true)
							x.fail(n)
							done = x.play(t, &l, calls)
							loose = x.d.Loose()
							x.crash(t, keeps(choice, loose))
							ended = x.reopen(t, &l, again, choice)
							x.ok(t, save(8, 1), call{open: true}, save(8, 1))
						}
					}
				}
			})
		}
	}
}

// P7.1: whatever is loose when it is opened; Open makes nothing safe, and loses nothing but "hard.tmp".
func TestLooseFiles(t *testing.T) {
	files := map[string][]byte{"hard": pair{5, 6}.file(), "hard.tmp": make([]byte, 70), "x": make([]byte, 40)}
	for choice := range 1 << 6 {
		for n := range 2 {
			x := newBoth()
			x.put(t, files, false)
			x.fail(n)
			x.must(t, call{open: true})
			loose := 6
			if n == 0 {
				loose = 3
			}
			if x.d.Loose() != loose {
				t.Fatalf("%d loose, not %d", x.d.Loose(), loose)
			}
			x.crash(t, keeps(choice, loose))
			x.ok(t, call{open: true})
			want := pair{}
			if choice&1 == 1 {
				want = pair{5, 6}
			}
			if x.kept() != want {
				t.Fatalf("%v, not %v", x.kept(), want)
			}
			x.ok(t, save(5, 6), save(6, 0))
			x.crash(t, nil)
			x.ok(t, call{open: true})
			if x.kept() != (pair{6, 0}) {
				t.Fatalf("%v", x.kept())
			}
		}
	}
}

// P7.1, P7.2: without power there is no Hard.
func TestOpenWithoutPower(t *testing.T) {
	for what, files := range map[string]map[string][]byte{
		"nothing":    nil,
		"hard":       {"hard": pair{5, 6}.file()},
		"no hard":    {"hard": nil},
		"hard.tmp":   {"hard.tmp": pair{5, 6}.file()},
		"both":       {"hard": pair{5, 6}.file(), "hard.tmp": nil},
		"other ones": {"x": nil},
	} {
		x := newBoth()
		x.put(t, files, true)
		x.fail(1)
		x.d.Create("y")
		x.twin.Create("y")
		for range 2 {
			if e := x.must(t, call{open: true}); e != api.ErrDown || x.h != nil {
				t.Errorf("%s: %v, %d", what, x.h, e)
			}
		}
		if len(x.d.Names()) != len(files) {
			t.Errorf("%s: %q", what, x.d.Names())
		}
		x.crash(t, nil)
		x.ok(t, call{open: true})
		if x.kept() != pairOf(files["hard"]) {
			t.Errorf("%s: %v", what, x.kept())
		}
	}
}

// P7.1, P7.2: long runs with many losses of power.
func TestLongRuns(t *testing.T) {
	terms := []int64{-1, 0, 1, 2, 3, 63, 64, 1 << 20, 1 << 40, 1<<40 + 1}
	for seed := range 300 {
		r := rand.New(rand.NewPCG(7, uint64(seed)))
		x, l := newBoth(), &lived{}
		x.ok(t, call{open: true})
		for range 40 {
			x.fail(r.IntN(12))
			for x.h != nil {
				c := save(terms[r.IntN(len(terms))], r.IntN(10)-1)
				c.open = r.IntN(6) == 0
				if x.play(t, l, []call{c}) == 0 || r.IntN(20) == 0 {
					break
				}
			}
			choice := r.IntN(4)
			x.crash(t, keeps(choice, x.d.Loose()))
			x.reopen(t, l, r.IntN(3), choice)
		}
	}
}
