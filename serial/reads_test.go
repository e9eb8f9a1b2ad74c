package serial_test

import (
	"math"
	"slices"
	"testing"

	"quillet/api"
	"quillet/serial"
)

// P12.1: an order is each number of the history just once.
func TestReadsWrongOrders(t *testing.T) {
	h := done(on(0), on(0), on(0))
	for _, order := range [][]int64{
		nil, {}, {1}, {1, 2}, {2, 3}, {1, 3}, {3}, // one is left out
		{1, 1, 1}, {1, 2, 2}, {1, 1, 2}, {2, 3, 2}, {3, 3, 1}, // one comes twice
		{0, 1, 2}, {1, 2, 4}, {1, 2, -3}, {-1, -2, -3}, {1, 2, 0}, {4, 5, 6}, // one isn't there
		{1, 2, math.MaxInt64}, {math.MinInt64, 1, 2}, {1, 2, 1<<32 + 3}, {1 << 32, 1, 2}, {1, 2, 3 - 1<<32},
		{1, 2, 3, 4}, {1, 2, 3, 3}, {0, 1, 2, 3}, {1, 2, 3, 0}, {1, 2, 3, 1, 2, 3}, {1, 1, 2, 3}, // too long
		make([]int64, 3), make([]int64, 1<<20), make([]int64, 64), make([]int64, 65),
	} {
		if serial.Reads(h, order) {
			t.Errorf("Reads holds of the order %v", order)
		}
		if len(order) < 100 {
			askedReads(t, "wrong orders", h, order)
		}
	}
	for _, order := range permutations(3) {
		if !serial.Reads(h, order) {
			t.Errorf("Reads doesn't hold of the order %v", order)
		}
	}
	if serial.Reads(nil, make([]int64, 1)) || serial.Reads(done(on(0)), nil) || !serial.Reads(done(on(0)), []int64{1}) {
		t.Error("none or one")
	}
}

// P12.1: a history that isn't right has read nothing, in whatever order.
func TestReadsWrongHistories(t *testing.T) {
	for name, h := range map[string][]api.Done{
		"begins at 0":       {{Num: 0, Sub: on(0)}, {Num: 1, Sub: on(0)}},
		"begins at 2":       {{Num: 2, Sub: on(0)}, {Num: 3, Sub: on(0)}},
		"another order":     {{Num: 2, Sub: on(0)}, {Num: 1, Sub: on(0)}},
		"one twice":         {{Num: 1, Sub: on(0)}, {Num: 1, Sub: on(0)}},
		"a wrong one":       {{Num: 1, Sub: on(0)}, {Num: 2}},
		"a Snap too high":   done(on(0), on(2)),
		"one key, beside":   done(on(0, w(1)), on(0, w(1))),
		"the Snap above":    done(on(1), on(0)),
		"reads out of form": done(on(0, r(zero)), on(0)),
	} {
		var nums []int64
		for _, x := range h {
			nums = append(nums, x.Num)
		}
		slices.Sort(nums)
		for _, order := range [][]int64{nil, {1, 2}, {2, 1}, nums} {
			if serial.Reads(h, order) {
				t.Errorf("%s: Reads holds of %v", name, order)
			}
			askedReads(t, name, h, order)
		}
	}
	long := many(65)
	order := make([]int64, 65)
	for i := range order {
		order[i] = int64(i + 1)
	}
	if serial.Reads(long, order) || !serial.Reads(long[:64], order[:64]) {
		t.Error("64 and 65")
	}
}

// P12.1: which orders Reads holds of, of all that there are.
func TestReadsOrders(t *testing.T) {
	all := func(n int) [][]int64 { return permutations(n) }
	for name, c := range map[string]struct {
		h     []api.Done
		holds [][]int64
	}{
		"a key that nobody writes":            {done(on(0, r(1)), on(0, r(1), w(2)), on(1, sp(shut(3, 9)))), all(3)},
		"nobody reads":                        {done(on(0, w(1)), on(1, w(1)), on(2, w(1))), all(3)},
		"version 0":                           {done(on(0, w(1)), on(0, r(1))), [][]int64{{2, 1}}},
		"version 0, one behind writes":        {done(on(0, r(1)), on(0, w(1))), [][]int64{{1, 2}}},
		"the last one ahead":                  {done(on(0, w(1)), on(1, r(1))), [][]int64{{1, 2}}},
		"the last one up to Snap":             {done(on(0, w(1)), on(1, w(1)), on(2, r(1))), [][]int64{{1, 2, 3}, {2, 3, 1}}},
		"one just above Snap":                 {done(on(0, w(1)), on(1, w(1)), on(1, r(1))), [][]int64{{1, 3, 2}, {2, 1, 3}}},
		"both above Snap":                     {done(on(0, w(1)), on(1, w(1)), on(0, r(1))), [][]int64{{3, 1, 2}, {3, 2, 1}}},
		"its own isn't ahead of it":           {done(on(0, r(1), w(1)), on(0)), all(2)},
		"its own, and one ahead":              {done(on(0, w(1)), on(1, r(1), w(1))), [][]int64{{1, 2}}},
		"its own, and one behind":             {done(on(0, r(1), w(1)), on(1, w(1))), [][]int64{{1, 2}}},
		"round":                               {done(on(0, r(1), w(2)), on(0, r(2), w(1))), nil},
		"by a span":                           {done(on(0, w(1)), on(1, sp(shut(0, 2)))), [][]int64{{1, 2}}},
		"by a span, its first":                {done(on(0, w(1)), on(0, sp(shut(1, 2)))), [][]int64{{2, 1}}},
		"by a span, its last":                 {done(on(0, w(1)), on(0, sp(shut(0, 1)))), [][]int64{{2, 1}}},
		"by a span that hasn't it":            {done(on(0, w(1)), on(0, sp(shut(0, down(1)), shut(up(1), 2)))), all(2)},
		"one of two keys of a span":           {done(on(0, w(1)), on(0, w(2)), on(1, sp(shut(1, 2)))), [][]int64{{1, 3, 2}}},
		"0 and its neighbours":                {done(on(0, w(-least)), on(0, w(0)), on(2, r(0))), [][]int64{{1, 2, 3}, {2, 1, 3}, {2, 3, 1}}},
		"an edge leads back, and nobody sees": {done(on(0, w(1)), on(1, r(1), w(1)), on(2, w(1))), [][]int64{{1, 2, 3}, {3, 1, 2}}},
	} {
		for _, order := range all(len(c.h)) {
			want := slices.ContainsFunc(c.holds, func(x []int64) bool { return slices.Equal(x, order) })
			if got := serial.Reads(c.h, order); got != want || !serial.Right(c.h) {
				t.Errorf("%s: Reads of %v is %v", name, order, got)
			}
			askedReads(t, name, c.h, order)
		}
		asked(t, name, c.h)
	}
}

// P12.1: Reads of a history that is as long as may be; two of its order changed about.
func TestReadsOfMany(t *testing.T) {
	h := many(64)
	order, _ := serial.Order(h)
	for i := range order {
		for j := range i {
			order[i], order[j] = order[j], order[i]
			if serial.Reads(h, order) {
				t.Fatalf("Reads holds, with %d and %d changed about", i, j)
			}
			order[i], order[j] = order[j], order[i]
		}
	}
	if !serial.Reads(h, order) {
		t.Fatal("Reads doesn't hold of the order")
	}
}
