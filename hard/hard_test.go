package hard_test

import (
	"bytes"
	"fmt"
	"math"
	"slices"
	"testing"

	"quillet/api"
	"quillet/disk"
	"quillet/hard"
)

func opened(t *testing.T, cs ...call) *both {
	t.Helper()
	x := newBoth()
	x.ok(t, call{open: true})
	x.ok(t, cs...)
	return x
}

// P7.1, P7.2
func TestExamples(t *testing.T) {
	d := disk.New()
	h, e := hard.Open(d)
	if e != api.OK || h.Term() != 0 || h.Vote() != 0 || len(d.Names()) != 0 {
		t.Fatalf("a new disk: %d, %q", e, d.Names())
	}
	d.Fail(5)
	if e := h.Save(3, 2); e != api.OK || h.Term() != 3 || h.Vote() != 2 || d.Down() {
		t.Fatalf("Save(3, 2) = %d: %d and %d", e, h.Term(), h.Vote())
	}
	if e := d.Create("x"); e != api.ErrDown {
		t.Error("Save(3, 2) weren't four steps")
	}
	d.Crash(nil)
	if h, e = hard.Open(d); e != api.OK || h.Term() != 3 || h.Vote() != 2 {
		t.Fatalf("Open = %d: %d and %d", e, h.Term(), h.Vote())
	}
	d.Fail(4)
	if e := h.Save(4, 0); e != api.ErrDown {
		t.Fatalf("Save(4, 0) = %d", e)
	}
	d.Crash(nil)
	if h, e = hard.Open(d); e != api.OK || h.Term() != 3 || h.Vote() != 2 {
		t.Errorf("Open = %d: %d and %d", e, h.Term(), h.Vote())
	}
}

// P7.1: the file's bytes, written out.
func TestForm(t *testing.T) {
	for p, want := range map[pair][]byte{
		{1, 0}:       {2, 0, 0, 0, 0x3C, 0x47, 0x24, 0xD6, 2, 0},
		{0, 7}:       {2, 0, 0, 0, 0xF5, 0xC8, 0x19, 0x5D, 0, 14},
		{64, 3}:      {3, 0, 0, 0, 0xA6, 0xAB, 0x40, 0xDE, 128, 1, 6},
		{1 << 40, 1}: {7, 0, 0, 0, 0x9C, 0x0E, 0x51, 0xFB, 128, 128, 128, 128, 128, 64, 2},
	} {
		x := opened(t, call{pair: p})
		if b, e := x.d.Read("hard"); e != api.OK || !bytes.Equal(b, want) {
			t.Errorf("%v: %#v, %d", p, b, e)
		}
		if !slices.Equal(x.d.Names(), []string{"hard"}) || x.d.Loose() != 0 {
			t.Errorf("%v: %q, %d loose", p, x.d.Names(), x.d.Loose())
		}
	}
}

// edges are pairs at and beyond the ends of their ranges.
func edges() []pair {
	var out []pair
	for _, term := range []int64{math.MinInt64, -1 << 40, -1, 0, 1, 1<<40 - 1, 1 << 40, 1<<40 + 1, 1 << 62, math.MaxInt64} {
		for _, vote := range []int{math.MinInt, -8, -1, 0, 1, 6, 7, 8, 256, 1 << 32, 1<<32 + 1, math.MaxInt} {
			out = append(out, pair{term, vote})
		}
	}
	return out
}

// P7.1, P7.2: what is in its range is kept; of what isn't nothing is, and nothing is done.
func TestRanges(t *testing.T) {
	right := 0
	for _, p := range edges() {
		inRange := p.term >= 0 && p.term <= 1<<40 && p.vote >= 0 && p.vote <= 7
		x := opened(t, save(9, 5))
		x.fail(1)
		want := api.ErrDown
		if !inRange {
			want = api.ErrArg
		}
		if e := x.must(t, call{pair: p}); e != want || x.d.Down() != inRange || x.kept() != (pair{9, 5}) {
			t.Errorf("Save(%d, %d) = %d: %v", p.term, p.vote, e, x.kept())
		}
		// Told ahead of the lack of power, too.
		x.fail(1)
		x.each(func(d *disk.Disk) { d.Sync("hard") })
		if e := x.must(t, call{pair: p}); e != want {
			t.Errorf("Save(%d, %d) without power = %d", p.term, p.vote, e)
		}
		x.crash(t, nil)
		x.ok(t, call{open: true})
		if e := x.must(t, call{pair: p}); (e == api.OK) != inRange {
			t.Errorf("Save(%d, %d) = %d", p.term, p.vote, e)
		}
		x.crash(t, nil)
		x.ok(t, call{open: true})
		if inRange != (x.kept() == p) || !inRange && x.kept() != (pair{9, 5}) {
			t.Errorf("Save(%d, %d), Open: %v", p.term, p.vote, x.kept())
		}
		if inRange {
			right++
		}
	}
	if right != 4*4 {
		t.Errorf("%d are in their range", right)
	}
}

// P7.1: what is kept already is no step, wherever it comes from.
func TestSaveOfTheSame(t *testing.T) {
	for what, x := range map[string]*both{
		"nothing":        opened(t),
		"saved":          opened(t, save(3, 2)),
		"saved, opened":  opened(t, save(3, 2), call{open: true}),
		"back to zeros":  opened(t, save(3, 2), save(0, 0)),
		"saved thrice":   opened(t, save(3, 2), save(4, 2), save(3, 2)),
		"refused behind": opened(t, save(3, 2)),
	} {
		if what == "refused behind" {
			x.must(t, save(3, 8))
			x.must(t, save(-1, 2))
		}
		names, p := x.d.Names(), x.kept()
		x.fail(1)
		if e := x.must(t, call{pair: p}); e != api.OK || x.d.Down() || !slices.Equal(x.d.Names(), names) || x.kept() != p {
			t.Errorf("%s: Save(%d, %d) = %d, %q", what, p.term, p.vote, e, x.d.Names())
		}
		x.each(func(d *disk.Disk) { d.Create("x") })
		if e := x.must(t, call{pair: p}); e != api.OK || !x.d.Down() {
			t.Errorf("%s: Save(%d, %d) without power = %d", what, p.term, p.vote, e)
		}
	}
}

// P7.1: another term, or another vote, or both; the next one or the one ahead: four steps each.
func TestSaveOfAnother(t *testing.T) {
	for _, p := range []pair{{3, 1}, {3, 3}, {3, 0}, {2, 2}, {4, 2}, {0, 2}, {0, 0}, {4, 0}, {2, 7}, {1 << 40, 7}} {
		for n := 1; n <= 5; n++ {
			x := opened(t, save(3, 2))
			x.fail(n)
			if e := x.must(t, call{pair: p}); (e == api.OK) != (n == 5) || e != api.OK && e != api.ErrDown || x.d.Down() != (n < 5) {
				t.Errorf("Save(%d, %d) with %d steps = %d", p.term, p.vote, n, e)
			}
			if n < 5 && x.kept() != (pair{3, 2}) {
				t.Errorf("Save(%d, %d) with %d steps: %v", p.term, p.vote, n, x.kept())
			}
			x.each(func(d *disk.Disk) { d.Create("x") })
			if !x.d.Down() {
				t.Errorf("Save(%d, %d) is fewer than four steps", p.term, p.vote)
			}
		}
	}
}

// P7.1: what the disk has ahead of each step.
func TestStepsOfSave(t *testing.T) {
	old, file := pair{3, 2}.file(), pair{4, 0}.file()
	for n, want := range []struct {
		files map[string][]byte
		loose int
	}{
		{map[string][]byte{"hard": old}, 0},
		{map[string][]byte{"hard": old, "hard.tmp": nil}, 0},
		{map[string][]byte{"hard": old, "hard.tmp": file}, 1},
		{map[string][]byte{"hard": old, "hard.tmp": file}, 0},
		{map[string][]byte{"hard": file}, 0},
	} {
		d := disk.New()
		h, _ := hard.Open(d)
		h.Save(3, 2)
		d.Fail(n + 1)
		h.Save(4, 0)
		if len(d.Names()) != len(want.files) || d.Loose() != want.loose {
			t.Fatalf("ahead of step %d: %q, %d loose", n+1, d.Names(), d.Loose())
		}
		// All is kept, so that it can be read.
		d.Crash([]bool{true})
		for name, f := range want.files {
			if b, e := d.Read(name); e != api.OK || !bytes.Equal(b, f) {
				t.Errorf("ahead of step %d: %s has %v, %d", n+1, name, b, e)
			}
		}
	}
}

// P7.1: an error of a step is answered, and ends it; the same Hard goes on when it can.
func TestErrorsOfSteps(t *testing.T) {
	x := opened(t, save(3, 2))
	x.each(func(d *disk.Disk) { d.Create("hard.tmp"); d.Write("hard.tmp", 0, []byte("mine")) })
	if e := x.must(t, save(4, 1)); e != api.ErrTwice || x.kept() != (pair{3, 2}) {
		t.Errorf("hard.tmp is there: %d, %v", e, x.kept())
	}
	if b, _ := x.d.Read("hard.tmp"); string(b) != "mine" {
		t.Errorf("hard.tmp has %q", b)
	}
	x.ok(t, save(3, 2), call{open: true})
	if x.kept() != (pair{3, 2}) || !slices.Equal(x.d.Names(), []string{"hard"}) {
		t.Errorf("opened: %v, %q", x.kept(), x.d.Names())
	}

	x = opened(t, save(3, 2))
	x.each(func(d *disk.Disk) {
		for i := range api.MaxFiles - 1 {
			d.Create(fmt.Sprint("x", i))
		}
	})
	if e := x.must(t, save(4, 1)); e != api.ErrMany || x.kept() != (pair{3, 2}) {
		t.Errorf("as many files as may be: %d, %v", e, x.kept())
	}
	x.each(func(d *disk.Disk) { d.Remove("x7") })
	x.ok(t, save(4, 1), save(4, 2), call{open: true})
	if x.kept() != (pair{4, 2}) || len(x.d.Names()) != api.MaxFiles-1 {
		t.Errorf("with room for one: %v, %d files", x.kept(), len(x.d.Names()))
	}

	// The power is gone, and comes back, and nobody opens it.
	for n := 1; n <= 4; n++ {
		x = opened(t, save(3, 2))
		x.fail(n)
		for range 3 {
			if e := x.must(t, save(4, 1)); e != api.ErrDown {
				t.Errorf("without power: %d", e)
			}
		}
		x.crash(t, nil)
		want := api.OK
		if n > 1 {
			want = api.ErrTwice
		}
		if e := x.must(t, save(4, 1)); e != want {
			t.Errorf("power gone at step %d: %d, not %d", n, e, want)
		}
		x.ok(t, call{open: true}, save(5, 1))
	}
}

// P7.1, P7.3: other files stay as they are.
func TestOtherFiles(t *testing.T) {
	files := map[string][]byte{}
	for i, name := range []string{"har", "hard.", "hard.tm", "hard.tmp2", "Hard", "hard2", "HARD.TMP", ".tmp", "snap.tmp", "w000000000000001", "s000000000000001"} {
		files[name] = append(pair{int64(i + 1), 1}.file(), make([]byte, i)...)
	}
	x := newBoth()
	x.put(t, files, false)
	loose := x.d.Loose()
	x.fail(1)
	x.ok(t, call{open: true})
	if x.kept() != (pair{}) || x.d.Down() || len(x.d.Names()) != len(files) {
		t.Fatalf("Open: %v, %q", x.kept(), x.d.Names())
	}
	x.fail(0)
	x.ok(t, save(3, 2), call{open: true}, save(4, 1), save(4, 1))
	if x.d.Loose() != loose || len(x.d.Names()) != len(files)+1 {
		t.Errorf("%d loose, %q", x.d.Loose(), x.d.Names())
	}
	for name, want := range files {
		if b, e := x.d.Read(name); e != api.OK || !bytes.Equal(b, want) {
			t.Errorf("%q has %v, %d", name, b, e)
		}
	}
}

// P7.1: two disks have nothing to do with each other.
func TestTwoDisks(t *testing.T) {
	a, b := opened(t, save(3, 2)), opened(t, save(7, 1))
	a.fail(1)
	if e := a.must(t, save(4, 0)); e != api.ErrDown {
		t.Errorf("the one = %d", e)
	}
	b.ok(t, save(8, 0), call{open: true})
	if a.kept() != (pair{3, 2}) || b.kept() != (pair{8, 0}) {
		t.Errorf("%v and %v", a.kept(), b.kept())
	}
}

// P7.1: every order of five calls.
func TestEveryOrder(t *testing.T) {
	choices := []call{{open: true}, save(0, 0), save(1, 0), save(1, 7), save(64, 7), save(1<<40, 1), save(-1, 1), save(1, 8)}
	n := len(choices)
	for i := range n * n * n * n * n {
		x := opened(t)
		for range 5 {
			x.must(t, choices[i%n])
			i /= n
		}
		x.ok(t, call{open: true})
	}
}
