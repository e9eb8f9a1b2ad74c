package preds_test

import (
	"math"
	"math/rand/v2"
	"testing"

	"quillet/api"
)

// chosen are the calls of which every order is tried.
func chosen() []call {
	return []call{put(right(1, 3), 1), put(shut(1, down(3)), 3), put(shut(2, 4), 2), put(left(zero, 2), 3), put(shut(1, 2), 2), put(shut(1, 2), 0), put(open(1, 1), 3), drop(1), drop(2), clearing()}
}

// P10.1: every order of up to five of the chosen calls, in tables with little room.
func TestEveryOrder(t *testing.T) {
	keys := []float64{zero, least, 1, 2, down(3), 3, 4, math.NaN()}
	cs := chosen()
	for most := range 4 {
		for long, n := 1, len(cs); long <= 5; long, n = long+1, n*len(cs) {
			for code := range n {
				x := newBoth(most)
				script := make([]call, long)
				for i, rest := 0, code; i < long; i, rest = i+1, rest/len(cs) {
					script[i] = cs[rest%len(cs)]
				}
				for _, c := range script {
					if got, want := x.do(c); got != want {
						t.Fatalf("New(%d), %v: %v = %d, not %d", most, script, c, got, want)
					}
				}
				x.told(t, script, keys)
			}
		}
	}
}

func anySpan(r *rand.Rand, ends []float64) api.Span {
	return api.Span{Lo: ends[r.IntN(len(ends))], Hi: ends[r.IntN(len(ends))], LoOpen: r.IntN(2) == 0, HiOpen: r.IntN(2) == 0}
}

// anyCall is mostly a Put of a span with edges as ends, sometimes of a wrong one.
func anyCall(r *rand.Rand, greatest int64) call {
	n := r.Int64N(greatest) + 1
	switch r.IntN(40) {
	case 0:
		return clearing()
	case 1, 2, 3:
		return drop(n - 2)
	case 4:
		return put(anySpan(r, nans()), n)
	case 5:
		return put(anySpan(r, line()), numbers()[r.IntN(len(numbers()))])
	case 6, 7, 8, 9, 10:
		return put(anySpan(r, []float64{r.NormFloat64(), r.NormFloat64(), -inf, inf}), n)
	}
	return put(anySpan(r, append(edges(), math.NaN())), n)
}

// P10.1, P10.2: many calls in any order; a Put makes no answer less, and At is the greatest of All that has the key.
func TestManyCalls(t *testing.T) {
	for seed := range 60 {
		r := rand.New(rand.NewPCG(10, uint64(seed)))
		most := []int{1, 3, 10, 31, 64, 99}[seed%6]
		greatest := []int64{3, 100, 1 << 40}[seed%3]
		x := newBoth(most)
		for range 300 {
			was := answers(x)
			c := anyCall(r, greatest)
			x.must(t, c)
			x.told(t, c, keys())
			for i, n := range answers(x) {
				if c.kind == "Put" && n < was[i] {
					t.Fatalf("%v makes %d of %d", c, n, was[i])
				}
			}
			x.greatest(t)
		}
	}
}

// greatest holds At against All.
func (x both) greatest(t *testing.T) {
	t.Helper()
	all := x.tab.All()
	for _, key := range keys() {
		best := int64(0)
		for _, item := range all {
			if has(item.Span, key) {
				best = max(best, item.Num)
			}
		}
		if got := x.tab.At(key); got != best {
			t.Fatalf("At(%v) = %d, not %d: %v", key, got, best, all)
		}
	}
}

// answers are every At, and how many spans there are.
func answers(x both) []int64 {
	out := []int64{int64(x.tab.Len())}
	for _, key := range keys() {
		out = append(out, x.tab.At(key))
	}
	return out
}
