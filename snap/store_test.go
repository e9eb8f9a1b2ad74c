package snap_test

import (
	"bytes"
	"fmt"
	"slices"
	"testing"

	"quillet/api"
	"quillet/disk"
	"quillet/snap"
)

func opened(t *testing.T, cs ...call) *both {
	t.Helper()
	x := newBoth()
	x.ok(t, open())
	x.ok(t, cs...)
	return x
}

// P8.1, P8.2
func TestExamples(t *testing.T) {
	for fail, want := range map[int]int64{4: 3, 5: 5} {
		d := disk.New()
		s, e := snap.Open(d)
		if last, ok := s.Last(); e != api.OK || ok || !empty(last) || len(d.Names()) != 0 {
			t.Fatalf("a new disk: %d, %s, %v", e, tell(last), ok)
		}
		if e := s.Put(of(3, 40)); e != api.OK {
			t.Fatalf("Put of 3 = %d", e)
		}
		d.Fail(fail)
		if e := s.Put(of(5, 40)); e != api.ErrDown {
			t.Fatalf("Put of 5 = %d", e)
		}
		d.Crash(nil)
		s, e = snap.Open(d)
		if last, ok := s.Last(); e != api.OK || !ok || !same(last, of(want, 40)) || !slices.Equal(d.Names(), []string{nameFor(want)}) {
			t.Errorf("the power went at step %d: %s, %v, %q", fail, tell(last), ok, d.Names())
		}
	}
}

// P8.1, P8.2: right ones are kept, whatever else is there; of wrong ones nothing is, and nothing is done.
func TestPutRight(t *testing.T) {
	for what, c := range rightCases() {
		x := opened(t)
		x.fail(1)
		want := api.ErrDown
		if !c.is {
			want = api.ErrArg
		}
		if e := x.must(t, put(c.s)); e != want || x.d.Down() != c.is || len(x.d.Names()) != 0 {
			t.Errorf("%s = %d, %q", what, e, x.d.Names())
		}
		x.crash(t, nil)
		x.ok(t, open())
		if e := x.must(t, put(c.s)); (e == api.OK) != c.is {
			t.Errorf("%s = %d", what, e)
		}
		x.crash(t, nil)
		x.ok(t, open())
		if last, ok := x.st.Last(); ok != c.is || c.is && !same(last, c.s) {
			t.Errorf("%s: %s, %v", what, tell(last), ok)
		}
	}
}

// P8.1: below, the same as, and above the last one's; a wrong one is told first.
func TestPutOld(t *testing.T) {
	for _, last := range []int64{1, 2, 5, 1<<40 - 1, 1 << 40} {
		for _, again := range []bool{false, true} {
			for _, index := range []int64{-1, 0, 1, 2, last - 1, last, last + 1, 1<<40 - 1, 1 << 40, 1<<40 + 1} {
				x := opened(t, put(of(last, 40)))
				if again {
					x.ok(t, open())
				}
				s := of(max(index, 0), 50)
				s.Index = index
				want, down := api.OK, api.ErrDown
				switch {
				case index < 1 || index > 1<<40:
					want, down = api.ErrArg, api.ErrArg
				case index <= last:
					want, down = api.ErrOld, api.ErrOld
				}
				x.fail(1)
				if e := x.must(t, put(s)); e != down || x.d.Down() != (want == api.OK) {
					t.Errorf("Put of %d behind %d without power = %d", index, last, e)
				}
				x.crash(t, nil)
				if e := x.must(t, put(s)); e != want {
					t.Errorf("Put of %d behind %d = %d, not %d", index, last, e, want)
				}
				s.Term = -1
				if e := x.must(t, put(s)); e != api.ErrArg {
					t.Errorf("Put of a wrong %d behind %d = %d", index, last, e)
				}
				kept := last
				if want == api.OK {
					kept = index
				}
				if x.index() != kept || !slices.Equal(x.d.Names(), []string{nameFor(kept)}) {
					t.Errorf("Put of %d behind %d: %d, %q", index, last, x.index(), x.d.Names())
				}
				x.ok(t, open())
			}
		}
	}
}

// stepsOf is how many steps a Put of a file of a size is.
func stepsOf(size int, elder bool) int {
	n := 1 + (size+255)/256 + 2
	if elder {
		n++
	}
	return n
}

// P8.1: as many steps as are said, at the edges of what is written at a time.
func TestStepsOfPut(t *testing.T) {
	at := func(file int) int { return file - len(fileOf(of(7, 100))) + 100 }
	for _, size := range []int{0, at(255), at(256), at(257), at(511), at(512), at(513), 2048, 2049, 5000, 32768} {
		for _, elder := range []bool{false, true} {
			for _, more := range []int{-1, 0, 1} {
				x := opened(t)
				if elder {
					x.ok(t, put(of(3, 1)))
				}
				s := of(7, size)
				n := stepsOf(len(fileOf(s)), elder)
				x.fail(n + more)
				e := x.must(t, put(s))
				if (e == api.OK) != (more == 1) || x.d.Down() != (more < 1) {
					t.Errorf("%d bytes, elder %v, power for %d steps of %d: %d", len(fileOf(s)), elder, n+more-1, n, e)
				}
				x.each(func(d *disk.Disk) { d.Create("x") })
				if !x.d.Down() {
					t.Errorf("%d bytes, elder %v: fewer than %d steps", len(fileOf(s)), elder, n)
				}
			}
		}
	}
}

// P8.1: what the disk has ahead of each step.
func TestDiskAheadOfSteps(t *testing.T) {
	old, s := of(3, 1), of(7, 500)
	b := fileOf(s)
	if len(b) <= 512 || len(b) > 544 {
		t.Fatalf("%d bytes", len(b))
	}
	for n, want := range []struct {
		files map[string][]byte
		loose int
	}{
		{map[string][]byte{nameFor(3): fileOf(old)}, 0},
		{map[string][]byte{nameFor(3): fileOf(old), "snap.tmp": nil}, 0},
		{map[string][]byte{nameFor(3): fileOf(old), "snap.tmp": b[:256]}, 8},
		{map[string][]byte{nameFor(3): fileOf(old), "snap.tmp": b[:512]}, 16},
		{map[string][]byte{nameFor(3): fileOf(old), "snap.tmp": b}, 17},
		{map[string][]byte{nameFor(3): fileOf(old), "snap.tmp": b}, 0},
		{map[string][]byte{nameFor(3): fileOf(old), nameFor(7): b}, 0},
		{map[string][]byte{nameFor(7): b}, 0},
	} {
		x := opened(t, put(old))
		x.fail(n + 1)
		x.must(t, put(s))
		if len(x.d.Names()) != len(want.files) || x.d.Loose() != want.loose {
			t.Fatalf("ahead of step %d: %q, %d loose", n+1, x.d.Names(), x.d.Loose())
		}
		// All is kept, so that it can be read.
		x.crash(t, slices.Repeat([]bool{true}, want.loose))
		for name, f := range want.files {
			if b, e := x.d.Read(name); e != api.OK || !bytes.Equal(b, f) {
				t.Errorf("ahead of step %d: %s has %v, %d", n+1, name, b, e)
			}
		}
	}
}

// P8.1: an error of a step is answered, and ends it; the same Store goes on when it can.
func TestErrorsOfSteps(t *testing.T) {
	x := opened(t, put(of(3, 40)))
	x.each(func(d *disk.Disk) { d.Create("snap.tmp"); d.Write("snap.tmp", 0, []byte("mine")) })
	if e := x.must(t, put(of(5, 40))); e != api.ErrTwice || x.index() != 3 {
		t.Errorf("snap.tmp is there: %d, %d", e, x.index())
	}
	if b, _ := x.d.Read("snap.tmp"); string(b) != "mine" {
		t.Errorf("snap.tmp has %q", b)
	}
	x.ok(t, open(), put(of(5, 40)))

	x = opened(t, put(of(3, 40)))
	x.each(func(d *disk.Disk) {
		for i := range api.MaxFiles - 1 {
			d.Create(fmt.Sprint("x", i))
		}
	})
	if e := x.must(t, put(of(5, 40))); e != api.ErrMany || x.index() != 3 {
		t.Errorf("as many files as may be: %d, %d", e, x.index())
	}
	x.each(func(d *disk.Disk) { d.Remove("x7") })
	x.ok(t, put(of(5, 40)), put(of(6, 40)), open())
	if x.index() != 6 || len(x.d.Names()) != api.MaxFiles-1 {
		t.Errorf("with room for one: %d, %d files", x.index(), len(x.d.Names()))
	}

	// Somebody has taken the elder one away: the new one is there all the same.
	x = opened(t, put(of(3, 40)))
	x.each(func(d *disk.Disk) { d.Remove(nameFor(3)) })
	if e := x.must(t, put(of(5, 40))); e != api.ErrNone {
		t.Errorf("the elder one isn't there: %d", e)
	}
	x.ok(t, open())
	if x.index() != 5 {
		t.Errorf("behind Open: %d", x.index())
	}

	// Somebody has laid another one of its name: that is replaced.
	x = opened(t, put(of(3, 40)))
	x.lay(t, map[string][]byte{nameFor(5): []byte("mine")}, true)
	x.ok(t, put(of(5, 40)), open())
	if x.index() != 5 {
		t.Errorf("behind Open: %d", x.index())
	}
}

// P8.1: the power is gone, and comes back, and nobody opens it.
func TestPutAgainWithoutOpen(t *testing.T) {
	s := of(5, 300)
	steps := stepsOf(len(fileOf(s)), true)
	for n := 1; n <= steps; n++ {
		x := opened(t, put(of(3, 40)))
		x.fail(n)
		for range 3 {
			if e := x.must(t, put(s)); e != api.ErrDown || x.index() != 3 {
				t.Errorf("without power: %d, %d", e, x.index())
			}
		}
		x.crash(t, nil)
		want := api.ErrTwice
		if n == 1 || n == steps {
			want = api.OK
		}
		if e := x.must(t, put(s)); e != want {
			t.Errorf("power gone at step %d: %d, not %d", n, e, want)
		}
		x.ok(t, open(), put(of(9, 1)))
	}
}

// others are names that are no snapshot's.
func others() []string {
	return []string{"hard", "hard.tmp", "w000000000000005", "s", "s5", "s00000000000005", "s00000000000000a", "s-00000000000005", "s+00000000000005", "s 00000000000005", "S000000000000005", "s0000000000000_5", "s00000000000.005", "0000000000000005", "t000000000000005", "s0000000000000\xd9\xa5", "s000000000000/05", "s000000000000:05", "ss00000000000005", "snap", "snap.tm", "snap.tmp2", "Snap.tmp", "snap.tmp\x00"}
}

// P8.1, P8.3: they stay as they are, whatever is done, though their bytes are a snapshot's.
func TestOtherFiles(t *testing.T) {
	x := newBoth()
	files := map[string][]byte{}
	for i, name := range others() {
		files[name] = fileOf(of(5, i))
	}
	x.lay(t, files, false)
	loose := x.d.Loose()
	x.fail(1)
	x.ok(t, open())
	if _, ok := x.st.Last(); ok || x.d.Down() || len(x.d.Names()) != len(files) {
		t.Fatalf("Open: %v, %q", ok, x.d.Names())
	}
	x.fail(0)
	x.ok(t, put(of(3, 40)), open(), put(of(4, 300)), put(of(5, 1)), open(), open())
	if x.d.Loose() != loose || len(x.d.Names()) != len(files)+1 {
		t.Errorf("%d loose, %q", x.d.Loose(), x.d.Names())
	}
	for name, want := range files {
		if b, e := x.d.Read(name); e != api.OK || !bytes.Equal(b, want) {
			t.Errorf("%q has %v, %d", name, b, e)
		}
	}
}

// P8.1: every order of five calls.
func TestEveryOrder(t *testing.T) {
	wrong := of(9, 3)
	wrong.Term = -1
	choices := []call{open(), put(of(1, 0)), put(of(2, 300)), put(of(2, 3)), put(of(3, 40)), put(of(1<<40, 3)), put(wrong)}
	n := len(choices)
	for i := range n * n * n * n * n {
		x := opened(t)
		for range 5 {
			x.must(t, choices[i%n])
			i /= n
		}
		x.ok(t, open())
	}
}

// P8.1: two disks have nothing to do with each other.
func TestTwoDisks(t *testing.T) {
	a, b := opened(t, put(of(3, 40))), opened(t, put(of(7, 40)))
	a.fail(1)
	if e := a.must(t, put(of(8, 1))); e != api.ErrDown {
		t.Errorf("the one = %d", e)
	}
	b.ok(t, put(of(8, 2)), open())
	if a.index() != 3 || b.index() != 8 {
		t.Errorf("%d and %d", a.index(), b.index())
	}
}
