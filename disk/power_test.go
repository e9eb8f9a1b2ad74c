package disk_test

import (
	"bytes"
	"math"
	"slices"
	"testing"

	"quillet/api"
	"quillet/disk"
)

// P5.1, P5.2: the chapter's example, and with other sectors kept.
func TestCrashExample(t *testing.T) {
	one, two := of(40, 1), of(40, 2)
	for i, c := range []struct {
		keep []bool
		want []byte
	}{
		{[]bool{false, true}, slices.Concat(one, make([]byte, 24), of(16, 2))},
		{nil, one},
		{[]bool{}, one},
		{[]bool{false}, one},
		{[]bool{false, false}, one},
		{[]bool{true}, slices.Concat(one, of(24, 2))},
		{[]bool{true, false}, slices.Concat(one, of(24, 2))},
		{[]bool{true, true}, slices.Concat(one, two)},
		{[]bool{true, true, true, true}, slices.Concat(one, two)},
		{[]bool{false, false, true, true}, one},
	} {
		d := made(t, map[string][]byte{"a": one})
		is(t, "Write", d.Write("a", 40, two), api.OK)
		if n := d.Loose(); n != 2 {
			t.Fatalf("%d loose", n)
		}
		d.Crash(c.keep)
		if b, e := d.Read("a"); e != api.OK || !bytes.Equal(b, c.want) || d.Loose() != 0 {
			t.Errorf("case %d: %v, %d, %d loose", i, b, e, d.Loose())
		}
		d.Crash(nil)
		holds(t, d, "a", c.want)
	}
}

// P5.1: last sectors that are shorter, on either side.
func TestCrashShortSectors(t *testing.T) {
	for i, c := range []struct {
		safe int
		now  []byte
		keep []bool
		want []byte
	}{
		{0, of(5, 2), []bool{true}, of(5, 2)},
		{0, of(5, 2), []bool{false}, nil},
		{3, of(5, 2), []bool{true}, of(5, 2)},
		{3, of(5, 2), []bool{false}, of(3, 1)},
		{0, of(100, 2), []bool{false, false, false, true}, append(make([]byte, 96), of(4, 2)...)},
		{0, of(100, 2), []bool{false, true}, append(make([]byte, 32), of(32, 2)...)},
		{0, of(100, 2), []bool{true, false, true, false}, slices.Concat(of(32, 2), make([]byte, 32), of(32, 2))},
		{70, of(100, 2), []bool{true, false, false, true}, slices.Concat(of(32, 2), of(38, 1), make([]byte, 26), of(4, 2))},
		{70, of(100, 2), []bool{false, true, true, false}, slices.Concat(of(32, 1), of(64, 2))},
		{70, of(100, 2), []bool{false, false, true}, slices.Concat(of(64, 1), of(32, 2))},
		{64, of(100, 2), []bool{false, false, false, true}, slices.Concat(of(64, 1), make([]byte, 32), of(4, 2))},
		{64, append(of(64, 1), of(32, 2)...), []bool{true}, append(of(64, 1), of(32, 2)...)},
		{70, of(70, 2), []bool{false, true, false}, slices.Concat(of(32, 1), of(32, 2), of(6, 1))},
	} {
		d := made(t, map[string][]byte{"a": of(c.safe, 1)})
		is(t, "Write", d.Write("a", 0, c.now), api.OK)
		d.Crash(c.keep)
		if b, e := d.Read("a"); e != api.OK || !bytes.Equal(b, c.want) {
			t.Errorf("case %d: %v, %d", i, b, e)
		}
	}
}

// P5.1: loose sectors are counted by the files' names, whatever the order in which they were written.
func TestCrashOrderOfFiles(t *testing.T) {
	for n := range 6 {
		d := disk.New()
		for _, name := range []string{"c", "B", "a", "aa"} {
			d.Create(name)
		}
		for _, name := range []string{"c", "a", "aa", "B"} {
			d.Write(name, 0, of(map[string]int{"c": 40, "B": 33, "a": 0, "aa": 7}[name], name[0]))
		}
		if d.Loose() != 5 {
			t.Fatalf("%d loose", d.Loose())
		}
		keep := make([]bool, 6)
		keep[n] = true
		d.Crash(keep)
		want := map[string][]byte{}
		switch n {
		case 0:
			want["B"] = of(32, 'B')
		case 1:
			want["B"] = append(make([]byte, 32), 'B')
		case 2:
			want["aa"] = of(7, 'a')
		case 3:
			want["c"] = of(32, 'c')
		case 4:
			want["c"] = append(make([]byte, 32), of(8, 'c')...)
		}
		for _, name := range d.Names() {
			holds(t, d, name, want[name])
		}
	}
}

// P5.2: each synced byte that wasn't written over since is there, whatever is kept; with all kept all is as it was.
func TestSyncedBytesStay(t *testing.T) {
	for mask := range 1 << 5 {
		d := made(t, map[string][]byte{"a": of(140, 1)})
		for _, at := range []int{0, 40, 70, 110, 130} {
			is(t, "Write", d.Write("a", at, of(20, 2)), api.OK)
		}
		now, _ := d.Read("a")
		keep := make([]bool, 5)
		for i := range keep {
			keep[i] = mask&(1<<i) != 0
		}
		d.Crash(keep)
		b, _ := d.Read("a")
		if len(b) < 140 || mask == 31 && !bytes.Equal(b, now) {
			t.Fatalf("%v: %v", keep, b)
		}
		for i := range b {
			if now[i] == 1 && b[i] != 1 {
				t.Errorf("%v: byte %d is %d", keep, i, b[i])
			}
		}
	}
}

// P5.1: what a Crash leaves is safe.
func TestCrashIsSafe(t *testing.T) {
	d := made(t, map[string][]byte{"a": of(40, 1)})
	d.Write("a", 20, of(60, 2))
	d.Crash([]bool{true, false, true})
	want, _ := d.Read("a")
	if d.Loose() != 0 || len(want) != 80 {
		t.Fatalf("%d loose, %v", d.Loose(), want)
	}
	for range 3 {
		d.Write("a", 0, of(80, 9))
		d.Crash(nil)
		holds(t, d, "a", want)
	}
}

// P5.1: Fail at none, at the first step, at the n-th.
func TestFail(t *testing.T) {
	for _, n := range []int{math.MinInt, -1, 0} {
		d := made(t, map[string][]byte{"a": nil})
		d.Fail(n)
		for range 300 {
			is(t, "Sync", d.Sync("a"), api.OK)
		}
		if d.Down() {
			t.Errorf("Fail(%d): the power is off", n)
		}
	}
	for n := 1; n < 20; n++ {
		d := made(t, map[string][]byte{"a": nil})
		d.Fail(n)
		for i := 1; i < 25; i++ {
			want := api.OK
			if i >= n {
				want = api.ErrDown
			}
			is(t, "Write", d.Write("a", 0, []byte{byte(i)}), want)
			if d.Down() != (i >= n) {
				t.Errorf("Fail(%d), step %d: off: %v", n, i, d.Down())
			}
		}
		d.Crash([]bool{true})
		if n == 1 {
			holds(t, d, "a", nil)
		} else {
			holds(t, d, "a", []byte{byte(n - 1)})
		}
	}
	d := made(t, map[string][]byte{"a": nil})
	d.Fail(math.MaxInt)
	is(t, "Sync", d.Sync("a"), api.OK)
}

// P5.1: each kind of step counts, isn't done where the power goes, and answers ErrDown ahead of all else.
func TestFailAtEachStep(t *testing.T) {
	for _, name := range []string{"b", "", name17, "none", "z"} {
		for what, f := range steps(name) {
			d := made(t, map[string][]byte{"a": of(3, 1), "b": of(3, 2), "z": of(3, 3)})
			d.Write("b", 3, of(40, 4))
			d.Fail(1)
			is(t, what, f(d), api.ErrDown)
			if !d.Down() || !slices.Equal(d.Names(), []string{"a", "b", "z"}) || d.Loose() != 2 {
				t.Errorf("%s: %q, %d loose, off: %v", what, d.Names(), d.Loose(), d.Down())
			}
			d.Crash([]bool{true, true})
			holds(t, d, "b", append(of(3, 2), of(40, 4)...))
			holds(t, d, "z", of(3, 3))
			d.Fail(2)
			f(d)
			if d.Down() {
				t.Errorf("%s: the power goes too early", what)
			}
			is(t, "the step behind "+what, d.Sync("a"), api.ErrDown)
		}
	}
}

// P5.1: what isn't a step doesn't count; a Fail is set anew by the next one, and let go by one of none and by a Crash.
func TestWhatFailCounts(t *testing.T) {
	d := made(t, map[string][]byte{"a": of(3, 1)})
	d.Fail(2)
	for range 5 {
		d.Read("a")
		d.Read("")
		d.Read("none")
		d.Names()
		d.Loose()
		d.Down()
	}
	is(t, "the first step", d.Sync("a"), api.OK)
	d.Fail(3)
	is(t, "the first step from then on", d.Sync("a"), api.OK)
	is(t, "the second step from then on", d.Sync("a"), api.OK)
	d.Fail(0)
	is(t, "a step with no Fail", d.Sync("a"), api.OK)
	d.Fail(1)
	d.Fail(-5)
	is(t, "a step with no Fail", d.Sync("a"), api.OK)
	d.Fail(1)
	d.Crash(nil)
	is(t, "a step behind a Crash", d.Sync("a"), api.OK)
	d.Fail(5)
	d.Fail(2)
	is(t, "the first step of two", d.Sync("a"), api.OK)
	is(t, "the second step of two", d.Sync("a"), api.ErrDown)
}

// P5.1: every call while the power is off.
func TestDown(t *testing.T) {
	for _, name := range []string{"a", "", name17, "none", "z"} {
		d := made(t, map[string][]byte{"a": of(40, 1), "z": of(3, 3)})
		d.Write("a", 20, of(60, 2))
		d.Fail(1)
		d.Sync("a")
		for what, f := range steps(name) {
			is(t, what, f(d), api.ErrDown)
			is(t, what+" again", f(d), api.ErrDown)
		}
		is(t, "Write at -1", d.Write(name, -1, nil), api.ErrDown)
		is(t, "Write of too much", d.Write(name, 0, of(api.MaxFile+1, 1)), api.ErrDown)
		is(t, "Cut at -1", d.Cut(name, -1), api.ErrDown)
		if b, e := d.Read(name); e != api.ErrDown || len(b) != 0 {
			t.Errorf("Read: %v, %d", b, e)
		}
		for _, n := range []int{0, -1, 1, 9} {
			d.Fail(n)
			if !d.Down() {
				t.Errorf("Fail(%d) brings the power back", n)
			}
		}
		if !slices.Equal(d.Names(), []string{"a", "z"}) || d.Loose() != 3 {
			t.Errorf("%q, %d loose", d.Names(), d.Loose())
		}
		d.Crash([]bool{true, false, true})
		if d.Down() || d.Loose() != 0 {
			t.Errorf("off: %v, %d loose", d.Down(), d.Loose())
		}
		holds(t, d, "a", slices.Concat(of(20, 1), of(12, 2), of(8, 1), make([]byte, 24), of(16, 2)))
		for range 20 {
			is(t, "a step behind a Crash", d.Sync("a"), api.OK)
		}
	}
}
