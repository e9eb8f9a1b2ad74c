package vers_test

import (
	"math"
	"slices"
	"testing"

	"quillet/api"
	"quillet/vers"
)

// numbers are those at and beyond the ends of their range.
func numbers() []int64 {
	return []int64{math.MinInt64, -1 << 40, -1, 0, 1, 2, 1<<40 - 1, 1 << 40, 1<<40 + 1, 1 << 62, math.MaxInt64}
}

func inRange(n int64) bool { return n >= 1 && n <= 1<<40 }

// P9.1, P9.2
func TestExamples(t *testing.T) {
	v := vers.New(9)
	for _, c := range []call{put(1, 5), put(1, 3), put(2, 7)} {
		if e := v.Put(c.key, c.n); e != api.OK {
			t.Fatalf("%v = %d", c, e)
		}
	}
	if n := v.At(1); n != 5 {
		t.Errorf("At(1) = %d", n)
	}
	if n := v.Over(api.Span{Lo: 1, Hi: 2, HiOpen: true}); n != 5 {
		t.Errorf("Over([1, 2)) = %d", n)
	}
	if n := v.Over(api.Span{Lo: 0, Hi: 9}); n != 7 {
		t.Errorf("Over([0, 9]) = %d", n)
	}
	if n := v.Drop(5); n != 1 || !alike(v.All(), []vers.Item{{Key: 2, Num: 7}}) {
		t.Errorf("Drop(5) = %d: %v", n, v.All())
	}
}

// rooms are what New may be given, with how many keys there is room for.
func rooms() map[int]int {
	return map[int]int{
		math.MinInt: 0, -1 << 32: 0, -65: 0, -64: 0, -1: 0,
		0: 0, 1: 1, 2: 2, 3: 3, 32: 32, 63: 63, 64: 64,
		65: 64, 66: 64, 128: 64, 1 << 32: 64, 1<<32 + 1: 64, math.MaxInt: 64,
	}
}

// P9.1: a new table has nothing, and tells so.
func TestNew(t *testing.T) {
	for most := range rooms() {
		x := newBoth(most)
		if x.tab.Len() != 0 || len(x.tab.All()) != 0 {
			t.Errorf("New(%d): %d, %v", most, x.tab.Len(), x.tab.All())
		}
		x.told(t, most, append(line(), nans()...), spans(append(edges(), math.NaN())...))
		for _, n := range numbers() {
			if got := x.tab.Drop(n); got != 0 {
				t.Errorf("New(%d): Drop(%d) = %d", most, n, got)
			}
		}
		x.tab.Clear()
		x.kept(t, most)
	}
}

// filled is a table with as many keys as may be, the i-th of them with the number of its place.
func filled(t *testing.T, most, room int, order func(i int) float64) both {
	t.Helper()
	x := newBoth(most)
	for i := range room {
		if e := x.must(t, put(order(i), int64(i+1))); e != 0 {
			t.Fatalf("New(%d): Put of key %d = %d", most, i, e)
		}
	}
	return x
}

// orders are keys by their place, in several orders.
func orders() map[string]func(i int) float64 {
	return map[string]func(i int) float64{
		"rising":  func(i int) float64 { return float64(i) },
		"falling": func(i int) float64 { return -float64(i) },
		"mixed":   func(i int) float64 { return float64(i * 37 % 101) },
	}
}

// P9.1: there is room for just so many keys, in whatever order they come; also when some or all have gone.
func TestRoom(t *testing.T) {
	for most, room := range rooms() {
		for what, order := range orders() {
			x := filled(t, most, room, order)
			full := func() {
				t.Helper()
				for _, key := range []float64{-inf, -1000, 0.5, 1000, inf} {
					if e := x.must(t, put(key, 1)); e != int(api.ErrMany) {
						t.Errorf("New(%d), %s: Put(%v, 1) = %d", most, what, key, e)
					}
				}
			}
			full()
			for i := range room {
				for _, n := range []int64{1, int64(i + 1), 1 << 40} {
					if e := x.must(t, put(order(i), n)); e != 0 {
						t.Errorf("New(%d), %s: Put(%v, %d) again = %d", most, what, order(i), n, e)
					}
				}
			}
			full()
			x.must(t, drop(1<<40))
			for i := range room {
				x.must(t, put(order(i), int64(i+1)))
			}
			full()
			if got := x.must(t, drop(1)); got != min(1, room) {
				t.Errorf("New(%d), %s: Drop(1) = %d", most, what, got)
			}
			if room > 0 {
				x.must(t, put(0.25, 7))
			}
			full()
			x.must(t, clearing())
			for i := range room {
				x.must(t, put(order(i), 3))
			}
			full()
		}
	}
}

// P9.1: every key but NaN is one; -0 and 0 are one key, whose form is told.
func TestKeys(t *testing.T) {
	for _, key := range line() {
		x := newBoth(1, put(key, 5))
		x.told(t, key, append(line(), nans()...), nil)
		if x.tab.At(key) != 5 || !alike(x.tab.All(), []vers.Item{{Key: key, Num: 5}}) {
			t.Errorf("Put(%v, 5): %v", key, x.tab.All())
		}
	}
	for _, first := range []float64{zero, 0} {
		for _, second := range []float64{zero, 0} {
			x := newBoth(1, put(first, 5))
			if e := x.must(t, put(second, 6)); e != 0 {
				t.Errorf("Put(%v, 5), Put(%v, 6) = %d", first, second, e)
			}
			if x.tab.At(zero) != 6 || x.tab.At(0) != 6 || !alike(x.tab.All(), []vers.Item{{Key: 0, Num: 6}}) {
				t.Errorf("Put(%v, 5), Put(%v, 6): %v", first, second, x.tab.All())
			}
		}
	}
}

// P9.1: all keys at once, put in several orders, rise.
func TestAllRises(t *testing.T) {
	keys := line()
	want := make([]vers.Item, len(keys))
	for i, key := range keys {
		want[i] = vers.Item{Key: key, Num: int64(i*7%len(keys) + 1)}
	}
	for step := 1; step < len(want); step++ {
		x := newBoth(64)
		for i := range step {
			for j := i; j < len(want); j += step {
				x.must(t, put(want[j].Key, want[j].Num))
			}
		}
		if !alike(x.tab.All(), want) || x.tab.Len() != len(want) {
			t.Fatalf("by steps of %d: %v", step, x.tab.All())
		}
		x.told(t, step, append(keys, nans()...), nil)
	}
}

// P9.1: the errors' order, and that they change nothing: of every key and number, in a table that is
// empty, full, or neither, and that has the key, or doesn't.
func TestErrors(t *testing.T) {
	seen := map[int]int{}
	for _, x := range []both{
		newBoth(0), newBoth(1), newBoth(1, put(1, 9)), newBoth(2, put(1, 9)),
		newBoth(2, put(1, 9), put(inf, 9)), newBoth(3, put(-inf, 9), put(zero, 9), put(inf, 9)),
	} {
		was := x.tab.All()
		for _, key := range append(edges(), nans()...) {
			for _, n := range numbers() {
				_, there := x.said.nums[key]
				want := api.OK
				switch {
				case math.IsNaN(key):
					want = api.ErrKey
				case !inRange(n):
					want = api.ErrName
				case !there && len(was) == x.said.most:
					want = api.ErrMany
				}
				if want == api.OK {
					continue
				}
				if e := x.tab.Put(key, n); e != want {
					t.Errorf("%v: Put(%v, %d) = %d, not %d", was, key, n, e, want)
				}
				if !alike(x.tab.All(), was) || x.tab.Len() != len(was) {
					t.Fatalf("%v: Put(%v, %d) leaves %v", was, key, n, x.tab.All())
				}
				seen[int(want)]++
			}
		}
	}
	if len(seen) != 3 {
		t.Errorf("seen: %v", seen)
	}
}

// P9.1: numbers at the ends of their range are kept as they are.
func TestNumbers(t *testing.T) {
	for _, n := range numbers() {
		x := newBoth(2)
		e := x.must(t, put(1, n))
		if (e == 0) != inRange(n) || e != 0 && e != int(api.ErrName) {
			t.Errorf("Put(1, %d) = %d", n, e)
		}
		if inRange(n) && x.tab.At(1) != n || !inRange(n) && x.tab.Len() != 0 {
			t.Errorf("Put(1, %d): %v", n, x.tab.All())
		}
	}
}

// P9.1, P9.2: a key that is put again has the greater number, in a full table too.
func TestPutAgain(t *testing.T) {
	for _, most := range []int{1, 2, 64} {
		for _, first := range []int64{1, 2, 5, 1<<40 - 1, 1 << 40} {
			for _, second := range []int64{1, 2, 4, 5, 6, 1<<40 - 1, 1 << 40} {
				x := newBoth(most, put(1, first))
				if e := x.must(t, put(1, second)); e != 0 || x.tab.At(1) != max(first, second) || x.tab.Len() != 1 {
					t.Errorf("New(%d), Put(1, %d), Put(1, %d) = %d: %v", most, first, second, e, x.tab.All())
				}
			}
		}
	}
	x := newBoth(3, put(1, 5), put(2, 5), put(3, 5))
	x.must(t, put(2, 4))
	x.must(t, put(2, 9))
	x.must(t, put(2, 5))
	if !alike(x.tab.All(), []vers.Item{{Key: 1, Num: 5}, {Key: 2, Num: 9}, {Key: 3, Num: 5}}) {
		t.Errorf("others have changed: %v", x.tab.All())
	}
}

// P9.1, P9.2: Over of every span whose ends are edges, or NaN, in tables with one key, some, and all.
func TestOver(t *testing.T) {
	ss := spans(append(edges(), nans()[0], nans()[3])...)
	tables := map[string]both{"none": newBoth(64), "rising": newBoth(64), "falling": newBoth(64), "every second": newBoth(64)}
	for i, key := range line() {
		tables["rising"].do(put(key, int64(i+1)))
		tables["falling"].do(put(key, int64(99-i)))
		tables["every second"].do(put(key, int64(i%2*5+1)))
		x := newBoth(1, put(key, 3))
		x.told(t, key, nil, ss)
	}
	for what, x := range tables {
		x.told(t, what, line(), ss)
		for _, s := range ss {
			best := int64(0)
			for _, key := range line() {
				if has(s, key) {
					best = max(best, x.tab.At(key))
				}
			}
			if got := x.tab.Over(s); got != best {
				t.Errorf("%s: Over(%v) = %d, but At is at most %d", what, s, got, best)
			}
		}
	}
}

// P9.1: open and closed ends at a key, written out.
func TestOverAtAKey(t *testing.T) {
	v := vers.New(8)
	for i, key := range []float64{-inf, 0, 1, 2, inf} {
		v.Put(key, int64(i+1))
	}
	for s, want := range map[api.Span]int64{
		{Lo: 1, Hi: 2}:                                 4,
		{Lo: 1, Hi: 2, HiOpen: true}:                   3,
		{Lo: 1, Hi: 2, LoOpen: true}:                   4,
		{Lo: 1, Hi: 2, LoOpen: true, HiOpen: true}:     0,
		{Lo: 1, Hi: 1}:                                 3,
		{Lo: 1, Hi: 1, LoOpen: true}:                   0,
		{Lo: 1, Hi: 1, HiOpen: true}:                   0,
		{Lo: 2, Hi: 1}:                                 0,
		{Lo: -inf, Hi: inf}:                            5,
		{Lo: -inf, Hi: inf, HiOpen: true}:              4,
		{Lo: -inf, Hi: -inf}:                           1,
		{Lo: -inf, Hi: 0, LoOpen: true}:                2,
		{Lo: -inf, Hi: 0, HiOpen: true}:                1,
		{Lo: inf, Hi: inf}:                             5,
		{Lo: inf, Hi: inf, LoOpen: true}:               0,
		{Lo: -inf, Hi: -inf, HiOpen: true}:             0,
		{Lo: inf, Hi: -inf}:                            0,
		{Lo: zero, Hi: zero}:                           2,
		{Lo: zero, Hi: 0, HiOpen: true}:                0,
		{Lo: zero, Hi: up(1), LoOpen: true}:            3,
		{Lo: math.NaN(), Hi: 2}:                        0,
		{Lo: 1, Hi: math.NaN()}:                        0,
		{Lo: math.NaN(), Hi: math.NaN()}:               0,
		{Lo: math.NaN(), Hi: inf, LoOpen: true}:        0,
		{Lo: 1, Hi: up(1), LoOpen: true}:               0,
		{Lo: 1, Hi: up(1), LoOpen: true, HiOpen: true}: 0,
	} {
		if got := v.Over(s); got != want {
			t.Errorf("Over(%v) = %d, not %d", s, got, want)
		}
	}
}

// P9.1: what goes is at most n, the others stay as they are.
func TestDrop(t *testing.T) {
	nums := []int64{5, 2, 9, 5, 1 << 40, 1}
	ns := append(numbers(), 3, 4, 5, 6, 8, 9, 10)
	for _, n := range ns {
		x := newBoth(6)
		gone := 0
		for i, m := range nums {
			x.do(put(float64(i), m))
			if m <= n {
				gone++
			}
		}
		if got := x.must(t, drop(n)); got != gone || x.tab.Len() != len(nums)-gone {
			t.Errorf("Drop(%d) = %d, not %d: %v", n, got, gone, x.tab.All())
		}
		for i, m := range nums {
			want := m
			if m <= n {
				want = 0
			}
			if got := x.tab.At(float64(i)); got != want {
				t.Errorf("Drop(%d): At(%d) = %d, not %d", n, i, got, want)
			}
		}
		if got := x.must(t, drop(n)); got != 0 {
			t.Errorf("Drop(%d) again = %d", n, got)
		}
		// What has gone has no number: a lesser one is taken again.
		if gone > 0 {
			x.must(t, put(5, 1))
			if got := x.tab.At(5); got != 1 {
				t.Errorf("Drop(%d), Put(5, 1): At(5) = %d", n, got)
			}
		}
	}
}

// P9.1: behind a Clear a table is as a new one, with the same room.
func TestClear(t *testing.T) {
	for most, room := range rooms() {
		x := filled(t, most, room, func(i int) float64 { return float64(i) })
		x.must(t, clearing())
		if x.tab.Len() != 0 || len(x.tab.All()) != 0 || x.tab.At(0) != 0 || x.tab.Over(api.Span{Lo: -inf, Hi: inf}) != 0 || x.tab.Drop(1<<40) != 0 {
			t.Errorf("New(%d), Clear: %v", most, x.tab.All())
		}
		x.must(t, clearing())
		for i := range room {
			if e := x.must(t, put(float64(-i), 1)); e != 0 {
				t.Errorf("New(%d), Clear: Put(%d, 1) = %d", most, -i, e)
			}
		}
	}
}

// P9.3: no two tables have anything together.
func TestTablesAreApart(t *testing.T) {
	a, b := newBoth(2), newBoth(3)
	a.must(t, put(1, 5))
	b.kept(t, "the other one's Put")
	b.must(t, put(1, 2))
	b.must(t, put(2, 2))
	b.must(t, put(3, 2))
	a.kept(t, "the other one's Put")
	a.must(t, put(2, 1))
	a.must(t, put(3, 1))
	b.must(t, clearing())
	a.kept(t, "the other one's Clear")
	a.must(t, drop(9))
	b.kept(t, "the other one's Drop")
}

// P9.1: what tells changes nothing.
func TestAskingChangesNothing(t *testing.T) {
	x := newBoth(3, put(2, 5), put(1, 9), put(3, 5))
	want := slices.Clone(x.said.all())
	for range 3 {
		x.told(t, "asked", append(line(), nans()...), spans(-inf, 1, 2, 3, inf, math.NaN()))
		x.tab.Drop(0)
		x.tab.Drop(4)
	}
	if !alike(x.tab.All(), want) {
		t.Errorf("%v, not %v", x.tab.All(), want)
	}
}
