package serial_test

import (
	"math/rand/v2"
	"slices"
	"testing"

	"quillet/api"
	"quillet/serial"
	"quillet/sub"
)

// shapes are small submissions, which meet each other in many ways.
func shapes() []api.Sub {
	var out []api.Sub
	for _, reading := range []part{r(), r(1), r(2), r(1, 2), sp(shut(2, 3))} {
		for _, writing := range []part{w(), w(1), w(2), w(1, 3)} {
			out = append(out, on(0, reading, writing))
		}
	}
	return out
}

// fewShapes are some of these: of them longer histories can be gone through.
func fewShapes() []api.Sub {
	return []api.Sub{on(0, w(1)), on(0, r(1), w(2)), on(0, r(2), w(1)), on(0, w(3), sp(shut(1, 2))), on(0, r(3), w(1, 2)), on(0, r(1, 3))}
}

// P12.1, P12.2: every choice of three small ones, and of four of some of them, on every Snap (one too high among them), and every order of each.
func TestEverySmallHistory(t *testing.T) {
	for length, shapes := range map[int][]api.Sub{3: shapes(), 4: fewShapes()} {
		for _, first := range shapes {
			t.Run("", func(t *testing.T) {
				t.Parallel()
				n := map[string]int{}
				everyHistory(t, done(first), length, shapes, n)
				if min(n["with an order"], n["without"], n["not right"]) == 0 {
					t.Errorf("of each kind: %v", n)
				}
			})
		}
	}
}

// everyHistory goes on from a history up to a length, and counts what was met.
func everyHistory(t *testing.T, h []api.Done, length int, shapes []api.Sub, n map[string]int) {
	n[everyOrderOf(t, h)]++
	if len(h) == length {
		return
	}
	for _, s := range shapes {
		for s.Snap = 0; s.Snap <= int64(len(h)+1); s.Snap++ {
			everyHistory(t, append(slices.Clone(h), api.Done{Num: int64(len(h) + 1), Sub: s}), length, shapes, n)
		}
	}
}

// everyOrderOf holds a history against what every order of it is; it tells which kind of history it is.
func everyOrderOf(t *testing.T, h []api.Done) string {
	asked(t, "small", h)
	if !serial.Right(h) {
		if serial.Reads(h, permutations(len(h))[0]) {
			t.Fatalf("Reads holds of %v, which isn't right", h)
		}
		return "not right"
	}
	edges := serial.Edges(h)
	var first []int64
	for _, order := range permutations(len(h)) {
		back := leadsBack(edges, order)
		if first == nil && !back {
			first = order
		}
		got := serial.Reads(h, order)
		if got != saidReads(h, order) || !back && !got {
			t.Fatalf("Reads(%v, %v) = %v", h, order, got)
		}
	}
	// The least one that may come, always, is the first of all orders in which no edge leads back.
	order, ok := serial.Order(h)
	if ok != (first != nil) || !slices.Equal(order, first) {
		t.Fatalf("Order(%v) = %v, %v, not %v", h, order, ok, first)
	}
	if !ok {
		return "without"
	}
	return "with an order"
}

// dice makes histories of few keys, so that they meet.
type dice struct {
	*rand.Rand
	keys []float64
}

func (d dice) some(most int) []float64 {
	var out []float64
	for range d.IntN(most + 1) {
		out = append(out, d.keys[d.IntN(len(d.keys))])
	}
	return out
}

func (d dice) spans(most int) []api.Span {
	var out []api.Span
	for range d.IntN(most + 1) {
		lo := d.IntN(len(d.keys))
		hi := min(lo+d.IntN(3), len(d.keys)-1)
		out = append(out, api.Span{Lo: d.keys[lo], Hi: d.keys[hi], LoOpen: d.IntN(4) == 0, HiOpen: d.IntN(4) == 0})
	}
	return out
}

// history is a right one of n: what one beside has written is left away.
func (d dice) history(n int, far int64, crowd int) []api.Done {
	var h []api.Done
	for i := range n {
		s := api.Sub{Session: d.Int64N(9) + 1, Seq: d.Int64N(1<<40) + 1, Reads: d.some(crowd), Writes: d.some(crowd)}
		s.Snap = max(0, int64(i)-d.Int64N(far))
		if d.IntN(3) == 0 {
			s.Spans = d.spans(crowd)
		}
		s.Writes = slices.DeleteFunc(s.Writes, func(key float64) bool {
			return slices.ContainsFunc(h[s.Snap:], func(t api.Done) bool { return writes(t.Sub, key) })
		})
		s, _ = sub.Canon(s)
		h = append(h, api.Done{Num: int64(i + 1), Sub: s})
	}
	return h
}

// spoilt is a history with one thing changed, by which it is mostly not right any more.
func (d dice) spoilt(h []api.Done) []api.Done {
	out := slices.Clone(h)
	i := d.IntN(len(out))
	x := &out[i]
	switch d.IntN(6) {
	case 0:
		x.Num += d.Int64N(5) - 2
	case 1:
		x.Sub.Snap = d.Int64N(int64(len(h)) + 2)
	case 2:
		x.Sub.Writes = d.some(3)
	case 3:
		x.Sub.Reads = d.some(3)
	case 4:
		x.Sub.Spans = d.spans(2)
	case 5:
		out = append(slices.Clone(h[:i]), h[i+1:]...)
	}
	return out
}

// shuffled is an order in which some have changed their places, some are others, or some are too many.
func (d dice) shuffled(order []int64, n int) []int64 {
	out := slices.Clone(order)
	for len(out) < n {
		out = append(out, int64(len(out)+1))
	}
	for range d.IntN(3) {
		i, j := d.IntN(n), d.IntN(n)
		out[i], out[j] = out[j], out[i]
	}
	switch d.IntN(12) {
	case 0:
		out[d.IntN(n)] += d.Int64N(3) - 1
	case 1:
		out = append(out, d.Int64N(int64(n)))
	case 2:
		out = out[1:]
	}
	return out
}

// P12.1, P12.2: many histories, short and long, right and not.
func TestManyHistories(t *testing.T) {
	pools := [][]float64{{1, 2, 3, 4}, {-inf, -1, -least, 0, least, 1, up(1), 2, inf}, append(upTo(0, 30), upTo(100, 30)...)}
	kinds := []struct {
		far   int64
		crowd int
	}{{1, 3}, {2, 1}, {2, 2}, {3, 2}, {6, 1}, {6, 2}, {20, 1}, {64, 1}, {4, 6}}
	for first := range 8 {
		t.Run("", func(t *testing.T) {
			t.Parallel()
			with, stuck, wrongs, held := 0, 0, 0, 0
			for seed := first; seed < 480; seed += 8 {
				d := dice{rand.New(rand.NewPCG(12, uint64(seed))), pools[seed/8%3]}
				kind := kinds[d.IntN(len(kinds))]
				h := d.history(1+d.IntN(20)+d.IntN(2)*44, kind.far, kind.crowd)
				h = h[:min(64, len(h))]
				if !serial.Right(h) {
					t.Fatalf("%v isn't right", h)
				}
				asked(t, seed, h)
				order, ok := serial.Order(h)
				if ok {
					with++
				} else if len(serial.Stuck(h)) < len(h) {
					stuck++
				}
				for range 8 {
					x := d.shuffled(order, len(h))
					askedReads(t, seed, h, x)
					if serial.Reads(h, x) {
						held++
					}
					bad := d.spoilt(h)
					if asked(t, seed, bad); !serial.Right(bad) {
						wrongs++
					}
					askedReads(t, seed, bad, x)
				}
			}
			if min(with, stuck) < 3 || min(wrongs, held) < 20 {
				t.Errorf("%d with an order, %d stuck in part, %d that aren't right, Reads held %d times alone", with, stuck, wrongs, held)
			}
		})
	}
}

// P12.1: as many as may be, each of which reads and writes as much as may be.
func TestTheGreatest(t *testing.T) {
	var ss, apartAll []api.Sub
	var spans []api.Span
	for i := range 8 {
		spans = append(spans, shut(float64(128*i), float64(128*i+126)))
	}
	for i := range 64 {
		ss = append(ss, on(int64(i), r(upTo(0, 16)...), w(upTo(0, 16)...), sp(apart(8)...)))
		apartAll = append(apartAll, on(0, w(upTo(float64(16*i), 16)...), sp(spans...)))
	}
	for name, h := range map[string][]api.Done{"one behind the other": done(ss...), "all beside each other": done(apartAll...)} {
		if !serial.Right(h) {
			t.Fatalf("%s: not right", name)
		}
		asked(t, name, h)
		order, _ := serial.Order(h)
		askedReads(t, name, h, order, permutations(1)[0])
	}
	if n := len(serial.Edges(done(apartAll...))); n != 64*63 {
		t.Errorf("all beside each other: %d edges", n)
	}
}
