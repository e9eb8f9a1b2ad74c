package wal_test

import (
	"bytes"
	"fmt"
	"math"
	"slices"
	"testing"

	"quillet/api"
	"quillet/disk"
	"quillet/wal"
)

// Bytes of Data with which the record of an entry of a small index has just below 256 bytes, 256, and more.
const (
	below  = 204
	at     = 235
	beyond = 236
)

// entry has Data of a size, and a Term and a Kind that hang on its index.
func entry(index int64, size int) api.Entry {
	data := make([]byte, size)
	for i := range data {
		data[i] = byte(index) + byte(i*7)
	}
	return api.Entry{Index: index, Term: index % 5, Kind: int(index % 3), Data: data}
}

// entries are some that follow each other, with Data of these sizes.
func entries(index int64, sizes ...int) []api.Entry {
	var out []api.Entry
	for i, n := range sizes {
		out = append(out, entry(index+int64(i), n))
	}
	return out
}

func opened(t *testing.T) *both {
	t.Helper()
	x := newBoth()
	x.ok(t, call{kind: "Open"})
	return x
}

func (x *both) ok(t *testing.T, c call) {
	t.Helper()
	if e := x.must(t, c); e != api.OK {
		t.Fatalf("%v = %d", c, e)
	}
}

func (x *both) append(t *testing.T, es ...api.Entry) {
	t.Helper()
	x.ok(t, call{kind: "Append", es: es})
}

// P6.1
func TestExamples(t *testing.T) {
	d := disk.New()
	w, e := wal.Open(d)
	if e != api.OK || w.First() != 0 || w.Last() != 0 || len(w.Entries()) != 0 {
		t.Fatalf("a new disk: %d", e)
	}
	if w.Append(api.Entry{Index: 1}) != api.OK || w.Sync() != api.OK || w.Append(api.Entry{Index: 2}) != api.OK {
		t.Fatal("1 and 2 aren't taken")
	}
	d.Crash(nil)
	w, e = wal.Open(d)
	if e != api.OK || w.First() != 1 || w.Last() != 1 || len(w.Entries()) != 1 || w.Entries()[0].Index != 1 {
		t.Fatalf("behind a Crash: %d, %v", e, w.Entries())
	}
	if w.CutFrom(1) != api.OK || w.First() != 0 || len(w.Entries()) != 0 || w.Append(api.Entry{Index: 7}) != api.OK || w.First() != 7 || w.Last() != 7 {
		t.Errorf("behind CutFrom: %v", w.Entries())
	}
}

// P6.1: a segment's bytes, written out.
func TestForm(t *testing.T) {
	x := opened(t)
	x.append(t, api.Entry{Index: 1, Term: 64, Kind: api.Change, Data: []byte("hi")}, api.Entry{Index: 2, Data: bytes.Repeat([]byte{9}, 20)})
	payload := []byte{2, 128, 1, 4, 4, 'h', 'i'}
	s := sumOf(payload)
	want := append([]byte{1, 7, 0, 0, 0, byte(s), byte(s >> 8), byte(s >> 16), byte(s >> 24)}, payload...)
	want = append(want, make([]byte, 16)...)
	payload = append([]byte{4, 0, 0, 40}, bytes.Repeat([]byte{9}, 20)...)
	s = sumOf(payload)
	want = append(want, 1, 24, 0, 0, 0, byte(s), byte(s>>8), byte(s>>16), byte(s>>24))
	want = append(want, payload[:23]...)
	want = append(want, 2, 9)
	want = append(want, make([]byte, 30)...)
	if got, e := x.d.Read("w000000000000001"); e != api.OK || !bytes.Equal(got, want) {
		t.Errorf("%v, %d, not %v", got, e, want)
	}
	if !slices.Equal(x.d.Names(), []string{"w000000000000001"}) {
		t.Errorf("%q", x.d.Names())
	}
}

// rightCases are entries, and whether each is right.
func rightCases() map[string]struct {
	e  api.Entry
	is bool
} {
	out := map[string]struct {
		e  api.Entry
		is bool
	}{}
	add := func(what string, e api.Entry, is bool) {
		out[what] = struct {
			e  api.Entry
			is bool
		}{e, is}
	}
	for n, is := range map[int64]bool{math.MinInt64: false, -1: false, 0: false, 1: true, 2: true, 1<<40 - 1: true, 1 << 40: true, 1<<40 + 1: false, 1<<63 - 1: false, 1e15: false} {
		add(fmt.Sprint("Index ", n), api.Entry{Index: n}, is)
	}
	for n, is := range map[int64]bool{math.MinInt64: false, -1: false, 0: true, 1: true, 1<<40 - 1: true, 1 << 40: true, 1<<40 + 1: false, 1<<63 - 1: false} {
		add(fmt.Sprint("Term ", n), api.Entry{Index: 5, Term: n, Kind: 1}, is)
	}
	for n, is := range map[int]bool{math.MinInt: false, -1: false, 0: true, 1: true, 2: true, 3: false, 256: false, 1 << 32: false, 1<<32 + 1: false, math.MaxInt: false} {
		add(fmt.Sprint("Kind ", n), api.Entry{Index: 5, Term: 1, Kind: n}, is)
	}
	for n, is := range map[int]bool{0: true, 1: true, 18: true, 19: true, 20: true, 2047: true, 2048: true, 2049: false, 4096: false, 4097: false, 70000: false} {
		add(fmt.Sprint("Data ", n), api.Entry{Index: 5, Data: bytes.Repeat([]byte{3}, n)}, is)
	}
	add("all greatest", api.Entry{Index: 1 << 40, Term: 1 << 40, Kind: 2, Data: bytes.Repeat([]byte{255}, 2048)}, true)
	return out
}

// P6.1, P6.2: of each kind of entry one that is right is read back, and nothing is written of one that isn't.
func TestRightEntries(t *testing.T) {
	for what, c := range rightCases() {
		x := opened(t)
		e := x.must(t, call{kind: "Append", es: []api.Entry{c.e}})
		if !c.is {
			if e != api.ErrArg || len(x.d.Names()) != 0 || x.w.Last() != 0 {
				t.Errorf("%s = %d", what, e)
			}
			continue
		}
		if e != api.OK {
			t.Errorf("%s = %d", what, e)
			continue
		}
		x.ok(t, call{kind: "Sync"})
		x.crash(t, nil)
		x.ok(t, call{kind: "Open"})
		sameEntries(t, call{kind: what}, x.w, []api.Entry{c.e})
	}
}

// P6.1: wherever it stands in the list, and whatever else is wrong.
func TestAppendRefuses(t *testing.T) {
	bad := api.Entry{Index: 3, Kind: 3}
	for _, c := range []struct {
		es   []api.Entry
		want api.Errno
	}{
		{nil, api.OK},
		{[]api.Entry{}, api.OK},
		{entries(3, 1), api.OK},
		{entries(3, 1, 2, 3), api.OK},
		{entries(2, 1), api.ErrGap},
		{entries(4, 1), api.ErrGap},
		{entries(1, 1), api.ErrGap},
		{entries(1<<40, 1), api.ErrGap},
		{[]api.Entry{entry(3, 1), entry(3, 1)}, api.ErrGap},
		{[]api.Entry{entry(3, 1), entry(5, 1)}, api.ErrGap},
		{[]api.Entry{entry(3, 1), entry(4, 1), entry(3, 1)}, api.ErrGap},
		{[]api.Entry{entry(4, 1), entry(3, 1)}, api.ErrGap},
		{[]api.Entry{entry(4, 1), entry(5, 1)}, api.ErrGap},
		{[]api.Entry{entry(3, beyond), entry(4, beyond), entry(6, 1)}, api.ErrGap},
		{[]api.Entry{bad}, api.ErrArg},
		{[]api.Entry{bad, entry(4, 1)}, api.ErrArg},
		{[]api.Entry{entry(3, 1), bad}, api.ErrArg},
		{[]api.Entry{entry(9, 1), bad}, api.ErrArg},
		{[]api.Entry{entry(3, 1), entry(7, 1), bad}, api.ErrArg},
		{[]api.Entry{entry(3, 1), {Index: 4, Term: -1}}, api.ErrArg},
		{[]api.Entry{entry(3, 1), {Index: 0}}, api.ErrArg},
		{[]api.Entry{entry(3, 1), entry(4, 2049)}, api.ErrArg},
	} {
		x := opened(t)
		x.append(t, entries(1, 5, 6)...)
		x.ok(t, call{kind: "Sync"})
		if got := x.must(t, call{kind: "Append", es: c.es}); got != c.want {
			t.Errorf("%v = %d, not %d", call{kind: "Append", es: c.es}, got, c.want)
		}
		if b, _ := x.d.Read(nameFor(1)); c.want != api.OK && (x.w.Last() != 2 || x.d.Loose() != 0 || len(x.d.Names()) != 1 || len(b) != 64) {
			t.Errorf("%v has written", call{kind: "Append", es: c.es})
		}
	}
}

// P6.1: both errors are told without power, ahead of it.
func TestAppendRefusesFirst(t *testing.T) {
	x := opened(t)
	x.append(t, entries(1, 5)...)
	x.fail(1)
	if e := x.w.Sync(); e != api.ErrDown {
		t.Fatalf("Sync = %d", e)
	}
	for _, c := range []struct {
		e    api.Entry
		want api.Errno
	}{{api.Entry{Index: 2, Kind: 7}, api.ErrArg}, {api.Entry{Index: 0}, api.ErrArg}, {entry(3, 1), api.ErrGap}, {entry(2, 1), api.ErrDown}} {
		if got := x.w.Append(c.e); got != c.want {
			t.Errorf("Append of %d = %d, not %d", c.e.Index, got, c.want)
		}
	}
	if e := x.w.Append(); e != api.OK {
		t.Errorf("Append of none = %d", e)
	}
}

// P6.1: the greatest index is the last one.
func TestGreatestIndex(t *testing.T) {
	x := opened(t)
	x.append(t, entry(1<<40-1, 1), entry(1<<40, 1))
	if e := x.must(t, call{kind: "Append", es: entries(1<<40+1, 1)}); e != api.ErrArg {
		t.Errorf("one behind = %d", e)
	}
	x.ok(t, call{kind: "DropTo", index: math.MaxInt64 - 1})
	x.append(t, entry(1<<40, 1))
	if !slices.Equal(x.d.Names(), []string{"w001099511627776"}) {
		t.Errorf("%q", x.d.Names())
	}
	x.ok(t, call{kind: "Open"})
	x.ok(t, call{kind: "CutFrom", index: math.MaxInt64})
	x.ok(t, call{kind: "CutFrom", index: math.MinInt64})
}

// P6.1: without entries any index may come, however they have gone.
func TestFirstIndexIsFree(t *testing.T) {
	for _, c := range []call{{kind: "Open"}, {kind: "CutFrom", index: 5}, {kind: "CutFrom", index: math.MinInt64}, {kind: "DropTo", index: 8}, {kind: "DropTo", index: math.MaxInt64}, {kind: "Reset"}} {
		for _, index := range []int64{1, 2, 4, 5, 6, 8, 9, 10, 1 << 40} {
			x := opened(t)
			if c.kind != "Open" {
				x.append(t, entries(5, 1, at, 2, beyond)...)
			}
			x.ok(t, c)
			if x.w.First() != 0 || x.w.Last() != 0 || len(x.d.Names()) != 0 {
				t.Fatalf("%v: %d, %d, %q", c, x.w.First(), x.w.Last(), x.d.Names())
			}
			x.append(t, entry(index, 3))
			if x.w.First() != index || x.w.Last() != index || !slices.Equal(x.d.Names(), []string{nameFor(index)}) {
				t.Fatalf("%d behind %v: %d, %d, %q", index, c, x.w.First(), x.w.Last(), x.d.Names())
			}
			x.ok(t, call{kind: "Sync"})
			x.ok(t, call{kind: "Open"})
		}
	}
}

// P6.1: a segment of fewer than 256 bytes takes one more, be that ever so long.
func TestSegments(t *testing.T) {
	for _, c := range []struct {
		sizes  []int
		starts []int64
	}{
		{[]int{below, 0}, []int64{1}},
		{[]int{at, 0}, []int64{1, 2}},
		{[]int{beyond, 0}, []int64{1, 2}},
		{[]int{below, 2048, 0}, []int64{1, 3}},
		{[]int{2048, 2048, 2048}, []int64{1, 2, 3}},
		{[]int{0, 0, 0, 0, 0, 0, 0, 0, 0}, []int64{1, 9}},
		{[]int{0, 0, 0, 0, 0, 0, 0, 2048, 0}, []int64{1, 9}},
		{[]int{at, at, below, 0, 0}, []int64{1, 2, 3, 5}},
	} {
		var want []string
		for _, n := range c.starts {
			want = append(want, nameFor(n))
		}
		together, alone := opened(t), opened(t)
		together.append(t, entries(1, c.sizes...)...)
		for i, n := range c.sizes {
			alone.append(t, entry(int64(i+1), n))
		}
		again := opened(t)
		for i, n := range c.sizes {
			again.append(t, entry(int64(i+1), n))
			again.ok(t, call{kind: "Open"})
		}
		for _, x := range []*both{together, alone, again} {
			if !slices.Equal(x.d.Names(), want) {
				t.Errorf("%v: %q", c.sizes, x.d.Names())
			}
		}
	}
}

// shapes are sizes of Data with which entries lie in one segment and in more, with full ones and ones of a single entry.
func shapes() [][]int {
	return [][]int{
		{},
		{0},
		{0, 0, 0},
		{at},
		{at, at, at},
		{at, 0, 0},
		{0, 0, beyond, 0, at, at, 0},
		{below, 1, 0, 0, 2048, 5, 6, beyond},
	}
}

// indexes are places around entries from 5 on.
func indexes(n int) []int64 {
	out := []int64{math.MinInt64, -1, 0, 1, 1 << 40, math.MaxInt64 - 1, math.MaxInt64}
	for i := range n + 4 {
		out = append(out, int64(3+i))
	}
	return out
}

// P6.1: at every index, then once more, and what may come behind.
func TestCutFromAndDropTo(t *testing.T) {
	for _, sizes := range shapes() {
		for _, kind := range []string{"CutFrom", "DropTo"} {
			for _, index := range indexes(len(sizes)) {
				for _, synced := range []bool{false, true} {
					x := opened(t)
					x.append(t, entries(5, sizes...)...)
					if synced {
						x.ok(t, call{kind: "Sync"})
					}
					c := call{kind: kind, index: index}
					x.ok(t, c)
					left(t, c, sizes, x.w)
					x.ok(t, c)
					x.append(t, entry(max(x.w.Last()+1, 1), at))
					x.append(t, entry(x.w.Last()+1, 7))
					x.ok(t, call{kind: "Sync"})
					if x.d.Loose() != 0 {
						t.Fatalf("%v, Sync: %d loose", c, x.d.Loose())
					}
					x.ok(t, call{kind: "Open"})
				}
			}
		}
	}
}

// left holds what is left of entries from 5 on against what the call takes away.
func left(t *testing.T, c call, sizes []int, w *wal.Wal) {
	t.Helper()
	want := entries(5, sizes...)
	if c.kind == "CutFrom" {
		want = slices.DeleteFunc(want, func(e api.Entry) bool { return e.Index >= c.index })
		sameEntries(t, c, w, want)
		return
	}
	for len(want) > 0 && len(want) > len(w.Entries()) {
		if want[0].Index > c.index {
			t.Fatalf("%v: %d has gone", c, want[0].Index)
		}
		want = want[1:]
	}
	sameEntries(t, c, w, want)
}

// P6.1: a segment stays as a whole while one of its entries stays.
func TestDropToLeavesSegments(t *testing.T) {
	for index, first := range map[int64]int64{4: 5, 5: 5, 6: 5, 7: 8, 8: 8, 9: 10, 10: 11, 11: 11} {
		x := opened(t)
		x.append(t, entries(5, 0, 0, beyond, 0, at, at, 0, 0)...)
		x.ok(t, call{kind: "DropTo", index: index})
		if x.w.First() != first || x.w.Last() != 12 || int64(len(x.w.Entries())) != 13-first {
			t.Errorf("DropTo(%d): %d to %d", index, x.w.First(), x.w.Last())
		}
	}
}

// P6.1: files that are no segments stay as they are, whatever is done.
func TestOtherFiles(t *testing.T) {
	x := newBoth()
	others := []string{"hard", "s000000000000005", "w", "w00000000000005", "w00000000000000a", "w-00000000000005", "w+00000000000005", "w 00000000000005", "W000000000000005", "w0000000000000_5", "w00000000000.005", "0000000000000005", "x000000000000005", "w0000000000000\xd9\xa5", "w000000000000/05", "w000000000000:05"}
	for i, name := range others {
		for _, d := range []*disk.Disk{x.d, x.twin} {
			if d.Create(name) != api.OK || d.Write(name, 0, recordOf(entry(5, i))) != api.OK {
				t.Fatalf("%q can't be made", name)
			}
		}
	}
	loose := x.d.Loose()
	x.ok(t, call{kind: "Open"})
	if x.w.Last() != 0 {
		t.Fatalf("Open has %v", x.w.Entries())
	}
	x.append(t, entries(5, 0, at, 0)...)
	for _, c := range []call{{kind: "Sync"}, {kind: "Open"}, {kind: "CutFrom", index: 7}, {kind: "DropTo", index: 5}, {kind: "Reset"}, {kind: "Open"}} {
		x.ok(t, c)
	}
	slices.Sort(others)
	if !slices.Equal(x.d.Names(), others) || x.d.Loose() != loose {
		t.Errorf("%q, %d loose, not %d", x.d.Names(), x.d.Loose(), loose)
	}
}

// P6.1: every order of four calls, chosen so that each has something to do behind others.
func TestEveryOrder(t *testing.T) {
	last := func(w *wal.Wal, n int64) int64 { return max(w.Last()+n, 1) }
	choices := []func(w *wal.Wal) call{
		func(w *wal.Wal) call { return call{kind: "Append", es: entries(last(w, 1), 3)} },
		func(w *wal.Wal) call { return call{kind: "Append", es: entries(last(w, 1), at, 2, below)} },
		func(w *wal.Wal) call { return call{kind: "Append", es: entries(last(w, 2), beyond, 1)} },
		func(w *wal.Wal) call { return call{kind: "Append", es: entries(7, 1)} },
		func(w *wal.Wal) call { return call{kind: "Sync"} },
		func(w *wal.Wal) call { return call{kind: "CutFrom", index: w.Last()} },
		func(w *wal.Wal) call { return call{kind: "CutFrom", index: w.First() + 1} },
		func(w *wal.Wal) call { return call{kind: "DropTo", index: w.First()} },
		func(w *wal.Wal) call { return call{kind: "DropTo", index: w.Last() - 1} },
		func(w *wal.Wal) call { return call{kind: "Reset"} },
		func(w *wal.Wal) call { return call{kind: "Open"} },
	}
	n := len(choices)
	for i := range n * n * n * n {
		x := opened(t)
		for _, k := range []int{i % n, i / n % n, i / n / n % n, i / n / n / n} {
			x.must(t, choices[k](x.w))
		}
		x.ok(t, call{kind: "Open"})
	}
}

// P6.1: no entry asks for more room than a file has: a segment that is full to its last byte takes none, one that is nearly full of 256 takes the longest.
func TestRoom(t *testing.T) {
	longest := api.Entry{Index: 1<<40 - 1, Term: 1 << 40, Kind: 2, Data: bytes.Repeat([]byte{255}, 2048)}
	x := opened(t)
	x.append(t, entry(1<<40-2, below-6), longest)
	if b, e := x.d.Read(nameFor(1<<40 - 2)); e != api.OK || len(b) != 224+2144 {
		t.Errorf("%d bytes, %d", len(b), e)
	}
	var b []byte
	for i := range 2048 {
		b = append(b, recordOf(entry(int64(i+1), i%16))...)
	}
	x = newBoth()
	x.put(t, map[string][]byte{nameFor(1): b})
	x.ok(t, call{kind: "Open"})
	x.append(t, entries(2049, 2048, 0)...)
	x.has(t, "behind a file that is full", 1, 2050, nameFor(1), nameFor(2049), nameFor(2050))
}

// P6.1: as many files as may be; the disk's error is answered as it is.
func TestManyFiles(t *testing.T) {
	x := opened(t)
	for i := range api.MaxFiles - 1 {
		x.append(t, entry(int64(i+1), at))
	}
	x.ok(t, call{kind: "Sync"})
	es := entries(256, at, 1)
	if e := x.must(t, call{kind: "Append", es: es}); e != api.ErrMany {
		t.Errorf("one file too many = %d", e)
	}
	x.ok(t, call{kind: "Open"})
	if x.w.Last() != 256 {
		t.Errorf("Open has %d to %d", x.w.First(), x.w.Last())
	}
	x.ok(t, call{kind: "DropTo", index: 3})
	x.append(t, entries(257, at, at, 1, 1)...)
	x.ok(t, call{kind: "Sync"})
	x.ok(t, call{kind: "Open"})
	x.ok(t, call{kind: "CutFrom", index: 5})
	if x.w.First() != 4 || x.w.Last() != 4 {
		t.Errorf("%d to %d", x.w.First(), x.w.Last())
	}
}

// P6.1: a call that has nothing to do does no step, and so asks for no power.
func TestNothingToDo(t *testing.T) {
	x := opened(t)
	x.append(t, entries(5, 0, at, 0)...)
	x.ok(t, call{kind: "Sync"})
	d := x.d
	d.Fail(1)
	for i, e := range []api.Errno{x.w.Sync(), x.w.CutFrom(8), x.w.DropTo(4), x.w.DropTo(5), x.w.Append()} {
		if e != api.OK || d.Down() {
			t.Fatalf("call %d = %d", i, e)
		}
	}
	for i, f := range []func() api.Errno{x.w.Reset, func() api.Errno { return x.w.CutFrom(7) }, func() api.Errno { return x.w.DropTo(6) }, func() api.Errno { return x.w.Append(entry(8, 1)) }} {
		if e := f(); e != api.ErrDown {
			t.Errorf("call %d = %d", i, e)
		}
		// None of them has done its first step.
		sameEntries(t, call{kind: "without power"}, x.w, entries(5, 0, at, 0))
	}
	if w, e := wal.Open(d); e != api.ErrDown || w != nil {
		t.Errorf("Open = %v, %d", w, e)
	}
}

// P6.1: Open asks whether the power is on, even where there is nothing to be done.
func TestOpenWithoutPower(t *testing.T) {
	d := disk.New()
	d.Fail(1)
	w, e := wal.Open(d)
	if e != api.OK || d.Down() {
		t.Fatalf("no step at all: %d", e)
	}
	if w.Append(entry(1, 1)) != api.ErrDown || w.Reset() != api.OK || w.Sync() != api.OK {
		t.Error("without power")
	}
	if w, e = wal.Open(d); e != api.ErrDown || w != nil {
		t.Errorf("Open = %v, %d", w, e)
	}
	d.Crash(nil)
	if w, e = wal.Open(d); e != api.OK || w.Last() != 0 || len(d.Names()) != 0 {
		t.Errorf("Open = %v, %d", w, e)
	}
}

// spoil writes over all of a list's memory, its spare room too.
func spoil(b []byte) {
	b = b[:cap(b)]
	for i := range b {
		b[i] = 0xEE
	}
}

// spoilEntries writes over all memory of entries.
func spoilEntries(es []api.Entry) {
	es = es[:cap(es)]
	for i := range es {
		spoil(es[i].Data)
		es[i] = api.Entry{Index: -7, Term: -7, Kind: -7, Data: []byte("spoilt")}
	}
}

// P6.4: arguments are neither changed nor kept.
func TestArgumentsStay(t *testing.T) {
	want := entries(1, 5, 40, 0, at, 3)
	back := bytes.Repeat([]byte{7}, 100)
	es := append(entries(1, 5, 40, 0, at, 3), entry(6, 1))
	es[1].Data = append(back[:0], want[1].Data...)
	d := disk.New()
	w, _ := wal.Open(d)
	if e := w.Append(es[:5]...); e != api.OK {
		t.Fatalf("Append = %d", e)
	}
	if !slices.EqualFunc(es[:5], want, sameEntry) || !sameEntry(es[5], entry(6, 1)) || !bytes.Equal(back[40:], bytes.Repeat([]byte{7}, 60)) {
		t.Error("Append has changed its arguments")
	}
	spoilEntries(es)
	spoil(back)
	sameEntries(t, call{kind: "spoilt arguments"}, w, want)
	w.Sync()
	w, _ = wal.Open(d)
	sameEntries(t, call{kind: "spoilt arguments, Open"}, w, want)
}

// P6.4: answers are new memory; no two lists of one share any.
func TestAnswersAreNewMemory(t *testing.T) {
	want := entries(1, 5, 40, 0, at, 3)
	d := disk.New()
	w, _ := wal.Open(d)
	w.Append(want...)
	for _, what := range []string{"written", "opened"} {
		spoilEntries(w.Entries())
		sameEntries(t, call{kind: what}, w, want)
		got := w.Entries()
		for i := range got {
			spoil(got[i].Data)
			for k := i + 1; k < len(got); k++ {
				if !sameEntry(got[k], want[k]) {
					t.Fatalf("%s: the Data of %d and %d share", what, got[i].Index, got[k].Index)
				}
			}
		}
		// Its answer of before stays, whatever is done behind it.
		got = w.Entries()
		w.CutFrom(5)
		w.Append(entry(5, 3), entry(6, 70))
		if !slices.EqualFunc(got, want, sameEntry) {
			t.Fatalf("%s: an answer is changed by later calls", what)
		}
		w.CutFrom(6)
		w.Sync()
		w, _ = wal.Open(d)
	}
}
