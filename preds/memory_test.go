package preds_test

import (
	"slices"
	"testing"

	"quillet/preds"
)

// spoil writes over a list, its spare room too.
func spoil(items []preds.Item) {
	items = items[:cap(items)]
	for i := range items {
		items[i] = preds.Item{Span: left(-77, -7), Num: 77}
	}
}

// P10.3: what is answered may be written over, spare room too: neither the table nor another answer changes.
func TestAnswersAreNew(t *testing.T) {
	for many := range 65 {
		x := newBoth(64)
		for i := range many {
			x.must(t, put(right(float64(i*37%101), 200), int64(i+1)))
			spoil(x.tab.All())
			x.kept(t, "an answer is written over")
		}
		first, second := x.tab.All(), x.tab.All()
		want := slices.Clone(second)
		spoil(first)
		if !alike(second, want) {
			t.Errorf("%d spans: two answers share", many)
		}
		// Room behind the table's spans is used by the next Put, and what goes leaves some.
		x.must(t, put(shut(1000, 1001), 1))
		spoil(second)
		x.kept(t, "an answer is written over")
		x.must(t, drop(int64(many/2)))
		spoil(x.tab.All())
		x.kept(t, "an answer is written over")
		x.must(t, put(shut(2000, 2001), 1))
		x.kept(t, "an answer is written over")
	}
}

// P10.3: what was answered stays, whatever is done to the table.
func TestAnswersStay(t *testing.T) {
	for _, many := range []int{0, 1, 2, 3, 5, 8, 33, 63, 64} {
		for _, c := range []call{put(shut(0, 99), 1<<40), put(shut(-5, 0), 3), put(shut(500, 501), 3), drop(0), drop(1), drop(7), drop(1 << 40), clearing()} {
			x := newBoth(64)
			for i := range many {
				x.must(t, put(shut(float64(i), 99), int64(i+1)))
			}
			was := x.tab.All()
			want := slices.Clone(was)
			x.must(t, c)
			x.must(t, put(shut(-6, 1), 4))
			x.must(t, put(shut(0, 99), 9))
			if !alike(was, want) {
				t.Errorf("%d spans: %v changes what was answered", many, c)
			}
		}
	}
}
