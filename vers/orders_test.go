package vers_test

import (
	"math"
	"math/rand/v2"
	"testing"

	"quillet/api"
)

// chosen are the calls of which every order is tried.
func chosen() []call {
	return []call{put(0, 1), put(zero, 3), put(1, 2), put(inf, 3), put(-inf, 2), put(1, 0), put(math.NaN(), 3), drop(1), drop(2), clearing()}
}

// P9.1: every order of up to five of the chosen calls, in tables with little room.
func TestEveryOrder(t *testing.T) {
	keys := []float64{-inf, zero, 0, 1, inf, math.NaN()}
	ss := []api.Span{{Lo: -inf, Hi: inf}, {Lo: 0, Hi: 1}, {Lo: zero, Hi: 1, HiOpen: true}, {Lo: 0, Hi: inf, LoOpen: true}, {Lo: 1, Hi: 0}, {Lo: math.NaN(), Hi: 1}}
	cs := chosen()
	for most := range 4 {
		for long, n := 1, len(cs); long <= 5; long, n = long+1, n*len(cs) {
			for code := range n {
				x := newBoth(most)
				script := make([]call, long)
				for i, rest := 0, code; i < long; i, rest = i+1, rest/len(cs) {
					script[i] = cs[rest%len(cs)]
				}
				for _, c := range script {
					if got, want := x.do(c); got != want {
						t.Fatalf("New(%d), %v: %v = %d, not %d", most, script, c, got, want)
					}
				}
				x.told(t, script, keys, ss)
			}
		}
	}
}

// anyCall is mostly a Put of a key of the line, sometimes of a wrong one.
func anyCall(r *rand.Rand, greatest int64) call {
	keys := line()
	n := r.Int64N(greatest) + 1
	switch r.IntN(40) {
	case 0:
		return clearing()
	case 1, 2, 3:
		return drop(n - 2)
	case 4:
		return put(nans()[r.IntN(len(nans()))], n)
	case 5:
		return put(keys[r.IntN(len(keys))], numbers()[r.IntN(len(numbers()))])
	case 6:
		return put(zero, n)
	case 7, 8, 9, 10:
		return put(r.NormFloat64(), n)
	}
	return put(keys[r.IntN(len(keys))], n)
}

// P9.1, P9.2: many calls in any order; a Put makes no answer less.
func TestManyCalls(t *testing.T) {
	keys := append(line(), math.NaN(), zero)
	for seed := range 60 {
		r := rand.New(rand.NewPCG(9, uint64(seed)))
		most := []int{1, 3, 10, 31, 64, 99}[seed%6]
		greatest := []int64{3, 100, 1 << 40}[seed%3]
		x := newBoth(most)
		ss := anySpans(r, 30)
		for range 300 {
			was := answers(x, keys, ss)
			c := anyCall(r, greatest)
			x.must(t, c)
			x.told(t, c, keys, ss)
			for i, n := range answers(x, keys, ss) {
				if c.kind == "Put" && n < was[i] {
					t.Fatalf("%v makes %d of %d", c, n, was[i])
				}
			}
		}
	}
}

func anySpans(r *rand.Rand, many int) []api.Span {
	out := make([]api.Span, many)
	ends := append(line(), math.NaN(), zero)
	for i := range out {
		out[i] = api.Span{Lo: ends[r.IntN(len(ends))], Hi: ends[r.IntN(len(ends))], LoOpen: r.IntN(2) == 0, HiOpen: r.IntN(2) == 0}
	}
	return out
}

// answers are every At and Over, and how many keys there are.
func answers(x both, keys []float64, ss []api.Span) []int64 {
	out := []int64{int64(x.tab.Len())}
	for _, key := range keys {
		out = append(out, x.tab.At(key))
	}
	for _, s := range ss {
		out = append(out, x.tab.Over(s))
	}
	return out
}
