package vers_test

import (
	"slices"
	"testing"

	"quillet/vers"
)

// spoil writes over a list, its spare room too.
func spoil(items []vers.Item) {
	items = items[:cap(items)]
	for i := range items {
		items[i] = vers.Item{Key: -77, Num: 77}
	}
}

// P9.3: what is answered may be written over, spare room too: neither the table nor another answer changes.
func TestAnswersAreNew(t *testing.T) {
	for many := range 65 {
		x := newBoth(64)
		for i := range many {
			x.must(t, put(float64(i*37%101), int64(i+1)))
			spoil(x.tab.All())
			x.kept(t, "an answer is written over")
		}
		first, second := x.tab.All(), x.tab.All()
		want := slices.Clone(second)
		spoil(first)
		if !alike(second, want) {
			t.Errorf("%d keys: two answers share", many)
		}
		// Room behind the table's keys is used by the next Put, and what goes leaves some.
		x.must(t, put(1000, 1))
		spoil(second)
		x.kept(t, "an answer is written over")
		x.must(t, drop(int64(many/2)))
		spoil(x.tab.All())
		x.kept(t, "an answer is written over")
		x.must(t, put(2000, 1))
		x.kept(t, "an answer is written over")
	}
}

// P9.3: what was answered stays, whatever is done to the table.
func TestAnswersStay(t *testing.T) {
	for _, many := range []int{0, 1, 2, 3, 5, 8, 33, 63, 64} {
		for _, c := range []call{put(0, 1<<40), put(-5, 3), put(500, 3), drop(0), drop(1), drop(7), drop(1 << 40), clearing()} {
			x := newBoth(64)
			for i := range many {
				x.must(t, put(float64(i), int64(i+1)))
			}
			was := x.tab.All()
			want := slices.Clone(was)
			x.must(t, c)
			x.must(t, put(-6, 4))
			x.must(t, put(0, 9))
			if !alike(was, want) {
				t.Errorf("%d keys: %v changes what was answered", many, c)
			}
		}
	}
}
