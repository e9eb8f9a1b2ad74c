package snap_test

import (
	"bytes"
	"maps"
	"math/rand/v2"
	"slices"
	"strings"
	"testing"

	"quillet/api"
	"quillet/disk"
	"quillet/snap"
)

// laid is both with these files, opened, with the power going at every step of that; and opened again, which is no step.
func laid(t *testing.T, files map[string][]byte) *both {
	t.Helper()
	var x *both
	for n, ended := 1, false; !ended; n++ {
		x = newBoth()
		x.lay(t, files, true)
		x.fail(n)
		ended = x.must(t, open()) == api.OK
		x.crash(t, nil)
		x.ok(t, open())
		last, ok := x.st.Last()
		if ok != isRight(last) || !ok && !empty(last) {
			t.Fatalf("Open has %s, %v", tell(last), ok)
		}
		names := x.d.Names()
		x.fail(1)
		x.ok(t, open())
		if again, is := x.st.Last(); is != ok || !same(again, last) || x.d.Down() || !slices.Equal(x.d.Names(), names) {
			t.Fatalf("opened again: %s, %v, %q; not %s, %v, %q", tell(again), is, x.d.Names(), tell(last), ok, names)
		}
		x.fail(0)
	}
	return x
}

// P8.1, P8.3: which file is kept.
func TestOpenFiles(t *testing.T) {
	file := func(index int64) []byte { return fileOf(of(index, 40)) }
	n3, n5, n7, n9 := nameFor(3), nameFor(5), nameFor(7), nameFor(9)
	for what, c := range map[string]struct {
		files map[string][]byte
		last  int64
		left  []string // beside the last one
	}{
		"none":                      {nil, 0, nil},
		"one":                       {map[string][]byte{n5: file(5)}, 5, nil},
		"two":                       {map[string][]byte{n5: file(5), n7: file(7)}, 7, nil},
		"many":                      {map[string][]byte{n3: file(3), n5: file(5), n7: file(7), n9: file(9)}, 9, nil},
		"the last one wrong":        {map[string][]byte{n3: file(3), n5: file(5), n7: file(7)[1:], n9: {}}, 5, nil},
		"the last one another's":    {map[string][]byte{n3: file(3), n5: file(5), n7: file(5)}, 5, nil},
		"the last one a later one":  {map[string][]byte{n3: file(3), n5: file(7)}, 3, nil},
		"one that is another's":     {map[string][]byte{n5: file(7)}, 0, nil},
		"each the other's":          {map[string][]byte{n5: file(7), n7: file(5)}, 0, nil},
		"all the first one's":       {map[string][]byte{n3: file(3), n5: file(3), n7: file(3)}, 3, nil},
		"all the last one's":        {map[string][]byte{n3: file(7), n5: file(7), n7: file(7)}, 7, nil},
		"an empty one":              {map[string][]byte{n5: nil}, 0, nil},
		"empty ones":                {map[string][]byte{n3: nil, n5: nil, n7: nil}, 0, nil},
		"a wrong one ahead":         {map[string][]byte{n3: file(3)[:9], n5: file(5)}, 5, nil},
		"the index 0":               {map[string][]byte{nameFor(0): file(0)}, 0, nil},
		"the index 0, empty":        {map[string][]byte{nameFor(0): nil}, 0, nil},
		"the index 0, and another":  {map[string][]byte{nameFor(0): file(0), n5: file(5)}, 5, nil},
		"the index 1":               {map[string][]byte{nameFor(1): file(1)}, 1, nil},
		"the greatest index":        {map[string][]byte{n5: file(5), nameFor(1 << 40): file(1 << 40)}, 1 << 40, nil},
		"beyond it":                 {map[string][]byte{n5: file(5), nameFor(1<<40 + 1): file(1<<40 + 1)}, 5, nil},
		"the greatest name":         {map[string][]byte{n5: file(5), "s999999999999999": file(999999999999999)}, 5, nil},
		"by number as by name":      {map[string][]byte{n9: file(9), nameFor(10): file(10), nameFor(1000): file(1000)}, 1000, nil},
		"a byte behind":             {map[string][]byte{n3: file(3), n5: append(file(5), 0)}, 3, nil},
		"snap.tmp":                  {map[string][]byte{"snap.tmp": nil}, 0, nil},
		"snap.tmp, a later one":     {map[string][]byte{n5: file(5), "snap.tmp": file(7)}, 5, nil},
		"snap.tmp, alone":           {map[string][]byte{"snap.tmp": file(7)}, 0, nil},
		"snap.tmp, and wrong ones":  {map[string][]byte{n3: file(3), n5: nil, "snap.tmp": file(7)[:9], n7: nil}, 3, nil},
		"one that is later, not so": {map[string][]byte{n5: file(5), "s00000000000007": file(7), "s0000000000007": file(7), "s00000000000000x": file(9)}, 5, []string{"s00000000000000x", "s00000000000007", "s0000000000007"}},
	} {
		x := laid(t, c.files)
		want := c.left
		if c.last > 0 {
			want = append(slices.Clone(want), nameFor(c.last))
		}
		slices.Sort(want)
		if x.index() != c.last || !slices.Equal(x.d.Names(), want) {
			t.Errorf("%s: %d, %q; not %d, %q", what, x.index(), x.d.Names(), c.last, want)
		}
		if last, ok := x.st.Last(); ok != (c.last > 0) || ok && !same(last, of(c.last, 40)) {
			t.Errorf("%s: %s, %v", what, tell(last), ok)
		}
		if e := x.must(t, put(of(5, 3))); (e == api.OK) != (c.last < 5) {
			t.Errorf("%s, Put of 5: %d", what, e)
		}
	}
}

// P8.1: "snap.tmp" goes first, then the others, in the order of their names; the one that is kept isn't touched.
func TestOrderOfRemoves(t *testing.T) {
	files := map[string][]byte{"snap.tmp": fileOf(of(4, 1)), nameFor(0): nil, nameFor(2): fileOf(of(2, 1)), nameFor(3): fileOf(of(9, 1)), nameFor(5): fileOf(of(5, 1)), nameFor(7): nil, nameFor(1 << 41): fileOf(of(5, 1)), "x": nil}
	order := []string{"snap.tmp", nameFor(0), nameFor(2), nameFor(3), nameFor(7), nameFor(1 << 41)}
	for n := range len(order) + 1 {
		d := disk.New()
		for name, b := range files {
			d.Create(name)
			d.Write(name, 0, b)
		}
		d.Fail(n + 1)
		st, e := snap.Open(d)
		if done := n == len(order); done != (e == api.OK) || !done && (e != api.ErrDown || st != nil) {
			t.Errorf("with %d steps: %v, %d", n, st, e)
		}
		want := append([]string{nameFor(5), "x"}, order[n:]...)
		slices.Sort(want)
		if !slices.Equal(d.Names(), want) {
			t.Errorf("with %d steps: %q, not %q", n, d.Names(), want)
		}
	}
}

// P8.1, P8.3: no wrong file is kept, and the elder one is.
func TestOpenWrongFiles(t *testing.T) {
	files := wrongFiles()
	good := fileOf(of(5, 40))
	for n := range good {
		files["cut at "+nameFor(int64(n))] = good[:n]
		b := slices.Clone(good)
		b[n] ^= 1 << (n % 8)
		files["turned at "+nameFor(int64(n))] = b
	}
	files["the longest, of zeros"] = make([]byte, api.MaxFile)
	files["the longest, of others"] = bytes.Repeat([]byte{255}, api.MaxFile)
	files["a snapshot, and all zeros"] = append(slices.Clone(good), make([]byte, api.MaxFile-len(good))...)
	for what, c := range rightCases() {
		if !c.is && len(fileOf(c.s)) <= api.MaxFile {
			files["wrong: "+what] = fileOf(c.s)
		}
	}
	for _, what := range slices.Sorted(maps.Keys(files)) {
		x := laid(t, map[string][]byte{nameFor(5): files[what]})
		if _, ok := x.st.Last(); ok || len(x.d.Names()) != 0 {
			t.Errorf("%s: %q", what, x.d.Names())
		}
		x.ok(t, put(of(5, 3)), open())
		x = laid(t, map[string][]byte{nameFor(4): fileOf(of(4, 9)), nameFor(5): files[what], "snap.tmp": files[what]})
		if x.index() != 4 || !slices.Equal(x.d.Names(), []string{nameFor(4)}) {
			t.Errorf("%s behind 4: %d, %q", what, x.index(), x.d.Names())
		}
		x.ok(t, put(of(5, 3)), open())
	}
}

// P8.3: as many files as may be.
func TestOpenManyFiles(t *testing.T) {
	files := map[string][]byte{}
	for i := range int64(api.MaxFiles) {
		files[nameFor(i+1)] = fileOf(of(i+1, 1))
	}
	for _, wrong := range []int64{256, 255, 254} {
		files[nameFor(wrong)] = files[nameFor(1)]
		x := newBoth()
		x.lay(t, files, true)
		x.ok(t, open())
		if x.index() != wrong-1 || len(x.d.Names()) != 1 {
			t.Errorf("%d of %d files", x.index(), len(x.d.Names()))
		}
	}
}

// P8.1: without power there is no Store.
func TestOpenWithoutPower(t *testing.T) {
	for what, files := range map[string]map[string][]byte{
		"nothing":    nil,
		"one":        {nameFor(5): fileOf(of(5, 1))},
		"a wrong":    {nameFor(5): nil},
		"snap.tmp":   {"snap.tmp": fileOf(of(5, 1))},
		"two":        {nameFor(5): fileOf(of(5, 1)), nameFor(7): fileOf(of(7, 1))},
		"other ones": {"x": nil},
	} {
		x := newBoth()
		x.lay(t, files, true)
		x.fail(1)
		x.each(func(d *disk.Disk) { d.Create("y") })
		for range 2 {
			if e := x.must(t, open()); e != api.ErrDown || x.st != nil {
				t.Errorf("%s: %v, %d", what, x.st, e)
			}
		}
		if len(x.d.Names()) != len(files) {
			t.Errorf("%s: %q", what, x.d.Names())
		}
		x.crash(t, nil)
		x.ok(t, open())
	}
}

// anyFiles are files that are nearly a Store's, or not at all.
func anyFiles(r *rand.Rand) map[string][]byte {
	files := map[string][]byte{}
	for range r.IntN(6) {
		index := r.Int64N(8)
		b := fileOf(of(index, []int{0, 1, 20, 300, 2100}[r.IntN(5)]))
		if r.IntN(3) == 0 {
			i := r.IntN(len(b))
			switch r.IntN(4) {
			case 0:
				b = b[:i]
			case 1:
				b[i] ^= 1 << r.IntN(8)
			case 2:
				clear(b[i/32*32 : min(i/32*32+32, len(b))])
			case 3:
				b = append(b, byte(r.IntN(3)))
			}
		}
		if r.IntN(5) == 0 {
			index = r.Int64N(10)
		}
		name := nameFor(index)
		switch r.IntN(12) {
		case 0:
			name = "snap.tmp"
		case 1:
			name = strings.Replace(name, "0", string("s:/ 9"[r.IntN(5)]), 1)
		}
		files[name] = b
	}
	return files
}

// P8.1, P8.3: whatever a disk holds.
func TestOpenAnyDisk(t *testing.T) {
	kept := 0
	for seed := range 5000 {
		r := rand.New(rand.NewPCG(83, uint64(seed)))
		x := laid(t, anyFiles(r))
		if x.index() > 0 {
			kept++
		}
		x.must(t, put(of(1+r.Int64N(8), r.IntN(300))))
		x.ok(t, open())
	}
	if kept < 1000 || kept > 4500 {
		t.Errorf("%d disks had a snapshot", kept)
	}
}

// P8.3: bytes of no form at all.
func FuzzOpen(f *testing.F) {
	f.Add([]byte{}, fileOf(of(5, 40)), int64(5))
	f.Add(fileOf(of(4, 40)), fileOf(of(5, 40))[:30], int64(4))
	f.Add(numbersOf(1, 0, 0, 0, 0), fileOf(of(7, 40)), int64(1))
	f.Fuzz(func(t *testing.T, a, b []byte, index int64) {
		if max(len(a), len(b)) > api.MaxFile || index < 0 || index > 1e14 {
			return
		}
		laid(t, map[string][]byte{nameFor(index): a, nameFor(index + 1): b, "snap.tmp": a})
	})
}
