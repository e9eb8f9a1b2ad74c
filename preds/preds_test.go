package preds_test

import (
	"math"
	"slices"
	"testing"

	"quillet/api"
	"quillet/preds"
)

// numbers are those at and beyond the ends of their range.
func numbers() []int64 {
	return []int64{math.MinInt64, -1 << 40, -1, 0, 1, 2, 1<<40 - 1, 1 << 40, 1<<40 + 1, 1 << 62, math.MaxInt64}
}

func inRange(n int64) bool { return n >= 1 && n <= 1<<40 }

// keys are all that are asked for, NaN and -0 too.
func keys() []float64 { return append(append(line(), nans()...), zero) }

// P10.1, P10.2
func TestExamples(t *testing.T) {
	p := preds.New(9)
	if e := p.Put(right(1, 3), 5); e != api.OK {
		t.Fatalf("Put([1, 3), 5) = %d", e)
	}
	if e := p.Put(shut(2, 4), 3); e != api.OK {
		t.Fatalf("Put([2, 4], 3) = %d", e)
	}
	for key, want := range map[float64]int64{1: 5, 2: 5, 3: 3, 5: 0} {
		if n := p.At(key); n != want {
			t.Errorf("At(%v) = %d", key, n)
		}
	}
}

// rooms are what New may be given, with how many spans there is room for.
func rooms() map[int]int {
	return map[int]int{
		math.MinInt: 0, -1 << 32: 0, -65: 0, -64: 0, -1: 0,
		0: 0, 1: 1, 2: 2, 3: 3, 32: 32, 63: 63, 64: 64,
		65: 64, 66: 64, 128: 64, 1 << 32: 64, 1<<32 + 1: 64, math.MaxInt: 64,
	}
}

// P10.1: a new table has nothing, and tells so.
func TestNew(t *testing.T) {
	for most := range rooms() {
		x := newBoth(most)
		if x.tab.Len() != 0 || len(x.tab.All()) != 0 {
			t.Errorf("New(%d): %d, %v", most, x.tab.Len(), x.tab.All())
		}
		x.told(t, most, keys())
		for _, n := range numbers() {
			if got := x.tab.Drop(n); got != 0 {
				t.Errorf("New(%d): Drop(%d) = %d", most, n, got)
			}
		}
		x.tab.Clear()
		x.kept(t, most)
	}
}

// filled is a table with as many spans as may be, the i-th of them with the number of its place.
func filled(t *testing.T, most, room int, order func(i int) api.Span) both {
	t.Helper()
	x := newBoth(most)
	for i := range room {
		if e := x.must(t, put(order(i), int64(i+1))); e != 0 {
			t.Fatalf("New(%d): Put of span %d = %d", most, i, e)
		}
	}
	return x
}

// orders are spans by their place, in several orders: apart, within each other, with an end that they share.
func orders() map[string]func(i int) api.Span {
	return map[string]func(i int) api.Span{
		"rising":      func(i int) api.Span { return shut(float64(i), float64(i)) },
		"falling":     func(i int) api.Span { return right(-float64(i), 1-float64(i)) },
		"mixed":       func(i int) api.Span { return open(float64(i*37%101), float64(i*37%101+5)) },
		"one Lo":      func(i int) api.Span { return shut(0, float64(i*37%101)) },
		"one Hi":      func(i int) api.Span { return left(-1-float64(i*37%101), 0) },
		"wider, both": func(i int) api.Span { return shut(-float64(i), float64(i)) },
	}
}

// P10.1: there is room for just so many spans, in whatever order they come; also when some or all have gone.
func TestRoom(t *testing.T) {
	for most, room := range rooms() {
		for what, order := range orders() {
			x := filled(t, most, room, order)
			full := func() {
				t.Helper()
				for _, s := range []api.Span{shut(-inf, inf), shut(-inf, -inf), shut(-1000, -999), shut(0.5, 0.5), right(0, 1000), shut(inf, inf)} {
					if e := x.must(t, put(s, 1)); e != int(api.ErrMany) {
						t.Errorf("New(%d), %s: Put(%v, 1) = %d", most, what, s, e)
					}
				}
			}
			full()
			for i := range room {
				for _, n := range []int64{1, int64(i + 1), 1 << 40} {
					if e := x.must(t, put(order(i), n)); e != 0 {
						t.Errorf("New(%d), %s: Put(%v, %d) again = %d", most, what, order(i), n, e)
					}
				}
			}
			full()
			x.must(t, drop(1<<40))
			for i := range room {
				x.must(t, put(order(i), int64(i+1)))
			}
			full()
			if got := x.must(t, drop(1)); got != min(1, room) {
				t.Errorf("New(%d), %s: Drop(1) = %d", most, what, got)
			}
			if room > 0 {
				x.must(t, put(shut(0.25, 0.5), 7))
			}
			full()
			x.must(t, clearing())
			for i := range room {
				x.must(t, put(order(i), 3))
			}
			full()
		}
	}
}

// P10.1: of spans with edges as ends every one is held against every one: just those that have the
// same keys are one, and its form is told.
func TestForms(t *testing.T) {
	ss := spans(append(edges(), math.NaN())...)
	for _, s := range ss {
		f, any := form(s)
		x := newBoth(1)
		if e := x.must(t, put(s, 5)); (e == 0) != any || e != 0 && e != int(api.ErrSpan) {
			t.Fatalf("Put(%v, 5) = %d", s, e)
		}
		if !any {
			continue
		}
		want := []preds.Item{{Span: f, Num: 5}}
		if !alike(x.tab.All(), want) {
			t.Fatalf("Put(%v, 5): %v, not %v", s, x.tab.All(), want)
		}
		for _, other := range ss {
			g, full := form(other)
			code := api.ErrMany
			switch {
			case !full:
				code = api.ErrSpan
			case f == g:
				code = api.OK
			}
			if e := x.tab.Put(other, 4); e != code {
				t.Fatalf("Put(%v, 5), Put(%v, 4) = %d, not %d", s, other, e, code)
			}
		}
		if !alike(x.tab.All(), want) {
			t.Fatalf("Put(%v, 5), lesser ones: %v", s, x.tab.All())
		}
	}
}

// P10.1: spans that are written otherwise, written out.
func TestWrittenOtherwise(t *testing.T) {
	for _, same := range [][]api.Span{
		{shut(1, 2), left(down(1), 2), right(1, up(2)), open(down(1), up(2))},
		{shut(1, 1), left(down(1), 1), right(1, up(1)), open(down(1), up(1))},
		{shut(0, 1), shut(zero, 1), left(-least, 1), right(zero, up(1)), open(-least, up(1))},
		{shut(0, 0), shut(zero, zero), shut(zero, 0), shut(0, zero), open(-least, least), left(-least, zero), right(zero, least)},
		{shut(least, 1), left(0, 1), left(zero, 1)},
		{shut(-1, -least), right(-1, 0), right(-1, zero)},
		{shut(-inf, inf)},
		{shut(-math.MaxFloat64, math.MaxFloat64), open(-inf, inf)},
		{shut(-inf, -inf), right(-inf, -math.MaxFloat64)},
		{shut(inf, inf), left(math.MaxFloat64, inf)},
	} {
		for _, a := range same {
			for _, b := range same {
				x := newBoth(1, put(a, 3))
				if e := x.must(t, put(b, 7)); e != 0 {
					t.Errorf("Put(%v, 3), Put(%v, 7) = %d", a, b, e)
				}
				if !alike(x.tab.All(), []preds.Item{{Span: shut(same[0].Lo+0, same[0].Hi+0), Num: 7}}) {
					t.Errorf("Put(%v, 3), Put(%v, 7): %v", a, b, x.tab.All())
				}
			}
		}
	}
}

// P10.1: spans without keys, written out.
func TestNoSpans(t *testing.T) {
	none := []api.Span{
		{LoOpen: true, HiOpen: true}, shut(2, 1), open(1, 1), left(1, 1), right(1, 1), open(1, up(1)), open(zero, 0),
		left(inf, inf), right(-inf, -inf), open(inf, inf), open(-inf, -inf), shut(inf, -inf), left(zero, 0), open(0, least), open(-least, zero),
	}
	for _, nan := range nans() {
		none = append(none, shut(nan, 1), shut(1, nan), shut(nan, nan), open(nan, 1), left(nan, inf), right(-inf, nan), open(nan, nan))
	}
	for _, s := range none {
		for _, n := range numbers() {
			for _, x := range []both{newBoth(0), newBoth(1), newBoth(1, put(shut(1, 2), 3)), newBoth(9, put(shut(1, 2), 3), put(shut(-inf, inf), 4))} {
				if e := x.must(t, put(s, n)); e != int(api.ErrSpan) {
					t.Errorf("Put(%v, %d) = %d", s, n, e)
				}
			}
		}
	}
}

// P10.1: the errors' order, and that they change nothing: of every span and number, in a table that is
// empty, full, or neither, and that has the span, or doesn't.
func TestErrors(t *testing.T) {
	seen := map[int]int{}
	for _, x := range []both{
		newBoth(0), newBoth(1), newBoth(1, put(shut(1, 2), 9)), newBoth(2, put(shut(1, 2), 9)),
		newBoth(2, put(shut(1, 2), 9), put(shut(1, inf), 9)), newBoth(3, put(shut(-inf, 0), 9), put(shut(zero, zero), 9), put(shut(-inf, inf), 9)),
	} {
		was := x.tab.All()
		for _, s := range spans(-inf, zero, 0, 1, 2, inf, math.NaN()) {
			f, any := form(s)
			_, there := x.said.nums[f]
			for _, n := range numbers() {
				want := api.OK
				switch {
				case !any:
					want = api.ErrSpan
				case !inRange(n):
					want = api.ErrName
				case !there && len(was) == x.said.most:
					want = api.ErrMany
				}
				if want == api.OK {
					continue
				}
				if e := x.tab.Put(s, n); e != want {
					t.Errorf("%v: Put(%v, %d) = %d, not %d", was, s, n, e, want)
				}
				if !alike(x.tab.All(), was) || x.tab.Len() != len(was) {
					t.Fatalf("%v: Put(%v, %d) leaves %v", was, s, n, x.tab.All())
				}
				seen[int(want)]++
			}
		}
	}
	if len(seen) != 3 {
		t.Errorf("seen: %v", seen)
	}
}

// P10.1: numbers at the ends of their range are kept as they are.
func TestNumbers(t *testing.T) {
	for _, n := range numbers() {
		x := newBoth(2)
		e := x.must(t, put(shut(1, 2), n))
		if (e == 0) != inRange(n) || e != 0 && e != int(api.ErrName) {
			t.Errorf("Put([1, 2], %d) = %d", n, e)
		}
		if inRange(n) && x.tab.At(1) != n || !inRange(n) && x.tab.Len() != 0 {
			t.Errorf("Put([1, 2], %d): %v", n, x.tab.All())
		}
	}
}

// P10.1, P10.2: a span that is put again has the greater number, in a full table too.
func TestPutAgain(t *testing.T) {
	for _, most := range []int{1, 2, 64} {
		for _, first := range []int64{1, 2, 5, 1<<40 - 1, 1 << 40} {
			for _, second := range []int64{1, 2, 4, 5, 6, 1<<40 - 1, 1 << 40} {
				x := newBoth(most, put(right(1, 2), first))
				if e := x.must(t, put(shut(1, down(2)), second)); e != 0 || x.tab.At(1) != max(first, second) || x.tab.Len() != 1 {
					t.Errorf("New(%d), Put([1, 2), %d), Put of it, %d = %d: %v", most, first, second, e, x.tab.All())
				}
			}
		}
	}
	x := newBoth(3, put(shut(1, 2), 5), put(shut(1, 3), 5), put(shut(2, 3), 5))
	x.must(t, put(shut(1, 3), 4))
	x.must(t, put(shut(1, 3), 9))
	x.must(t, put(shut(1, 3), 5))
	if !alike(x.tab.All(), []preds.Item{{Span: shut(1, 2), Num: 5}, {Span: shut(1, 3), Num: 9}, {Span: shut(2, 3), Num: 5}}) {
		t.Errorf("others have changed: %v", x.tab.All())
	}
}

// P10.1: spans that share ends, in every order of being put, are told by Lo, then by Hi.
func TestAllIsInOrder(t *testing.T) {
	ss := []api.Span{shut(-inf, -inf), shut(-inf, 2), shut(-inf, inf), shut(0, 0), shut(0, 1), shut(0, inf), shut(least, 1), shut(1, 1), shut(1, 2), shut(2, 2), shut(inf, inf)}
	want := make([]preds.Item, len(ss))
	for i, s := range ss {
		want[i] = preds.Item{Span: s, Num: int64(i*7%len(ss) + 1)}
	}
	for step := 1; step < len(ss); step++ {
		for _, back := range []bool{false, true} {
			x := newBoth(64)
			for i := range step {
				for j := i; j < len(ss); j += step {
					at := j
					if back {
						at = len(ss) - 1 - j
					}
					x.must(t, put(ss[at], want[at].Num))
				}
			}
			if !alike(x.tab.All(), want) || x.tab.Len() != len(ss) {
				t.Fatalf("by steps of %d: %v", step, x.tab.All())
			}
			x.told(t, step, keys())
		}
	}
}

// P10.1, P10.2: At at the ends of every span and beside them: of one span, and of two that overlap,
// share an end, lie within each other or apart.
func TestAt(t *testing.T) {
	ss := spans(append(edges(), math.NaN())...)
	for _, s := range ss {
		x := newBoth(1, put(s, 5))
		x.told(t, s, keys())
	}
	few := spans(-inf, 0, 1, up(1), 2, inf)
	for _, a := range few {
		for _, b := range few {
			x := newBoth(2, put(a, 5), put(b, 7))
			x.told(t, []api.Span{a, b}, []float64{-inf, -math.MaxFloat64, -least, zero, 0, least, down(1), 1, up(1), up(up(1)), down(2), 2, up(2), math.MaxFloat64, inf, math.NaN()})
		}
	}
}

// P10.1: ends at a key, written out.
func TestAtEnds(t *testing.T) {
	p := preds.New(8)
	for i, s := range []api.Span{open(1, 3), shut(3, 5), left(-inf, -5), shut(inf, inf), shut(zero, zero)} {
		if e := p.Put(s, int64(i+1)); e != api.OK {
			t.Fatalf("Put(%v) = %d", s, e)
		}
	}
	for key, want := range map[float64]int64{
		1: 0, up(1): 1, 2: 1, down(3): 1, 3: 2, up(3): 2, down(5): 2, 5: 2, up(5): 0,
		-inf: 0, -math.MaxFloat64: 3, down(-5): 3, -5: 3, up(-5): 0, inf: 4, math.MaxFloat64: 0,
		-least: 0, 0: 5, least: 0,
	} {
		if got := p.At(key); got != want {
			t.Errorf("At(%v) = %d, not %d", key, got, want)
		}
	}
	p.Put(shut(-inf, inf), 9)
	for _, nan := range nans() {
		if got := p.At(nan); got != 0 {
			t.Errorf("At(NaN) = %d", got)
		}
	}
	if p.At(zero) != 9 || p.At(-inf) != 9 || p.At(inf) != 9 {
		t.Errorf("At(-0), At(-Inf), At(+Inf) = %d, %d, %d", p.At(zero), p.At(-inf), p.At(inf))
	}
}

// P10.1: what goes is at most n, the others stay as they are.
func TestDrop(t *testing.T) {
	nums := []int64{5, 2, 9, 5, 1 << 40, 1}
	ns := append(numbers(), 3, 4, 5, 6, 8, 9, 10)
	for _, n := range ns {
		x := newBoth(6)
		gone := 0
		var want []preds.Item
		for i, m := range nums {
			s := shut(float64(i), 10)
			x.do(put(s, m))
			if m <= n {
				gone++
			} else {
				want = append(want, preds.Item{Span: s, Num: m})
			}
		}
		if got := x.must(t, drop(n)); got != gone || x.tab.Len() != len(nums)-gone || !alike(x.tab.All(), want) {
			t.Errorf("Drop(%d) = %d, not %d: %v", n, got, gone, x.tab.All())
		}
		x.told(t, n, []float64{-1, 0, 1, 2, 3, 4, 5, 6, 10, 11})
		if got := x.must(t, drop(n)); got != 0 {
			t.Errorf("Drop(%d) again = %d", n, got)
		}
		// What has gone has no number: a lesser one is taken again.
		if gone > 0 {
			x.must(t, put(shut(5, 10), 1))
			if all := x.tab.All(); all[len(all)-1] != (preds.Item{Span: shut(5, 10), Num: 1}) {
				t.Errorf("Drop(%d), Put([5, 10], 1): %v", n, all)
			}
		}
	}
}

// P10.1: behind a Clear a table is as a new one, with the same room.
func TestClear(t *testing.T) {
	for most, room := range rooms() {
		x := filled(t, most, room, func(i int) api.Span { return shut(0, float64(i)) })
		x.must(t, clearing())
		if x.tab.Len() != 0 || len(x.tab.All()) != 0 || x.tab.At(0) != 0 || x.tab.Drop(1<<40) != 0 {
			t.Errorf("New(%d), Clear: %v", most, x.tab.All())
		}
		x.must(t, clearing())
		for i := range room {
			if e := x.must(t, put(shut(float64(-i), 1), 1)); e != 0 {
				t.Errorf("New(%d), Clear: Put([%d, 1], 1) = %d", most, -i, e)
			}
		}
	}
}

// P10.3: no two tables have anything together.
func TestTablesAreApart(t *testing.T) {
	a, b := newBoth(2), newBoth(3)
	a.must(t, put(shut(1, 2), 5))
	b.kept(t, "the other one's Put")
	b.must(t, put(shut(1, 2), 2))
	b.must(t, put(shut(2, 2), 2))
	b.must(t, put(shut(3, 3), 2))
	a.kept(t, "the other one's Put")
	a.must(t, put(shut(2, 2), 1))
	a.must(t, put(shut(3, 3), 1))
	b.must(t, clearing())
	a.kept(t, "the other one's Clear")
	a.must(t, drop(9))
	b.kept(t, "the other one's Drop")
}

// P10.1: what tells changes nothing.
func TestAskingChangesNothing(t *testing.T) {
	x := newBoth(3, put(shut(2, 4), 5), put(open(1, 3), 9), put(shut(3, 3), 5))
	want := slices.Clone(x.said.all())
	for range 3 {
		x.told(t, "asked", keys())
		x.tab.Drop(0)
		x.tab.Drop(4)
	}
	if !alike(x.tab.All(), want) {
		t.Errorf("%v, not %v", x.tab.All(), want)
	}
}
