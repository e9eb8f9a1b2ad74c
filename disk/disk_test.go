package disk_test

import (
	"bytes"
	"math"
	"slices"
	"strconv"
	"strings"
	"testing"

	"quillet/api"
	"quillet/disk"
)

const (
	name16 = "1234567890123456"
	name17 = "12345678901234567"
)

func of(n int, c byte) []byte { return bytes.Repeat([]byte{c}, n) }

// made is a disk with files of these names and bytes, all of them synced.
func made(t *testing.T, files map[string][]byte) *disk.Disk {
	t.Helper()
	d := disk.New()
	for name, b := range files {
		if d.Create(name) != api.OK || d.Write(name, 0, b) != api.OK || d.Sync(name) != api.OK {
			t.Fatalf("file %q can't be made", name)
		}
	}
	return d
}

func holds(t *testing.T, d *disk.Disk, name string, want []byte) {
	t.Helper()
	if b, e := d.Read(name); e != api.OK || !bytes.Equal(b, want) {
		t.Errorf("%q has %v, %d, not %v", name, b, e, want)
	}
}

func is(t *testing.T, what string, got, want api.Errno) {
	t.Helper()
	if got != want {
		t.Errorf("%s = %d, not %d", what, got, want)
	}
}

// steps is each kind of step, on a file of this name.
func steps(name string) map[string]func(d *disk.Disk) api.Errno {
	return map[string]func(d *disk.Disk) api.Errno{
		"Create":    func(d *disk.Disk) api.Errno { return d.Create(name) },
		"Remove":    func(d *disk.Disk) api.Errno { return d.Remove(name) },
		"Rename":    func(d *disk.Disk) api.Errno { return d.Rename(name, "z") },
		"Rename to": func(d *disk.Disk) api.Errno { return d.Rename("z", name) },
		"Write":     func(d *disk.Disk) api.Errno { return d.Write(name, 0, []byte("new")) },
		"Cut":       func(d *disk.Disk) api.Errno { return d.Cut(name, 0) },
		"Sync":      func(d *disk.Disk) api.Errno { return d.Sync(name) },
	}
}

// P5.1
func TestNew(t *testing.T) {
	d := disk.New()
	if len(d.Names()) != 0 || d.Loose() != 0 || d.Down() {
		t.Errorf("%q, %d, %v", d.Names(), d.Loose(), d.Down())
	}
	d.Crash([]bool{true, true})
	if len(d.Names()) != 0 || d.Loose() != 0 || d.Down() {
		t.Errorf("behind a Crash: %q, %d, %v", d.Names(), d.Loose(), d.Down())
	}
}

// P5.1: names of 1 to 16 bytes, whatever bytes these are.
func TestNames(t *testing.T) {
	d := disk.New()
	right := []string{"b", "a", name16, "\x00", "\xff", " ", "éééééééé", "a\x00", "B"}
	for _, name := range right {
		is(t, "Create of "+strconv.Quote(name), d.Create(name), api.OK)
		holds(t, d, name, nil)
	}
	slices.Sort(right)
	if got := d.Names(); !slices.Equal(got, right) {
		t.Errorf("%q", got)
	}
	for _, name := range []string{"", name17, "ééééééééé", strings.Repeat("x", 1<<20)} {
		for what, f := range steps(name) {
			// There is no file "z": a name that isn't one is told ahead of that.
			is(t, what+" of no name", f(d), api.ErrArg)
		}
		b, e := d.Read(name)
		if e != api.ErrArg || len(b) != 0 {
			t.Errorf("Read of no name: %v, %d", b, e)
		}
		is(t, "Rename of itself", d.Rename(name, name), api.ErrArg)
		is(t, "Rename to no name", d.Rename("a", name), api.ErrArg)
	}
	if got := d.Names(); !slices.Equal(got, right) {
		t.Errorf("%q", got)
	}
}

// P5.1: calls on a file that isn't there.
func TestNoSuchFile(t *testing.T) {
	d := made(t, map[string][]byte{"a": []byte("old")})
	for what, f := range steps("b") {
		if what != "Create" {
			is(t, what, f(d), api.ErrNone)
		}
	}
	b, e := d.Read("b")
	if e != api.ErrNone || len(b) != 0 {
		t.Errorf("Read: %v, %d", b, e)
	}
	is(t, "Write at -1", d.Write("b", -1, nil), api.ErrNone)
	is(t, "Write of too much", d.Write("b", 0, of(api.MaxFile+1, 1)), api.ErrNone)
	is(t, "Cut at -1", d.Cut("b", -1), api.ErrNone)
	is(t, "Rename to a", d.Rename("b", "a"), api.ErrNone)
	is(t, "Rename to itself", d.Rename("b", "b"), api.ErrNone)
	if !slices.Equal(d.Names(), []string{"a"}) {
		t.Errorf("%q", d.Names())
	}
	holds(t, d, "a", []byte("old"))
}

// P5.1: 256 files, and one more.
func TestManyFiles(t *testing.T) {
	d := disk.New()
	for i := range api.MaxFiles {
		is(t, "Create "+strconv.Itoa(i), d.Create(strconv.Itoa(i)), api.OK)
	}
	is(t, "one more", d.Create("more"), api.ErrMany)
	is(t, "one that is there", d.Create("7"), api.ErrTwice)
	is(t, "no name", d.Create(""), api.ErrArg)
	is(t, "Rename", d.Rename("7", "seven"), api.OK)
	is(t, "one more behind Rename", d.Create("7"), api.ErrMany)
	is(t, "Rename onto another one", d.Rename("seven", "8"), api.OK)
	is(t, "one more behind that", d.Create("7"), api.OK)
	is(t, "one more again", d.Create("more"), api.ErrMany)
	is(t, "Remove", d.Remove("7"), api.OK)
	is(t, "one more behind Remove", d.Create("more"), api.OK)
	d.Crash(nil)
	is(t, "one more behind Crash", d.Create("even more"), api.ErrMany)
	if len(d.Names()) != api.MaxFiles || slices.Contains(d.Names(), "even more") {
		t.Errorf("%d files", len(d.Names()))
	}
}

// P5.1: a file that is there is left as it is by Create.
func TestCreateTwice(t *testing.T) {
	d := made(t, map[string][]byte{"a": []byte("old")})
	is(t, "Create", d.Create("a"), api.ErrTwice)
	holds(t, d, "a", []byte("old"))
	is(t, "Remove", d.Remove("a"), api.OK)
	is(t, "Remove again", d.Remove("a"), api.ErrNone)
	is(t, "Create", d.Create("a"), api.OK)
	holds(t, d, "a", nil)
	d.Crash(nil)
	holds(t, d, "a", nil)
}

// P5.1
func TestWritePlaces(t *testing.T) {
	for at, want := range map[int]api.Errno{-1: api.ErrArg, 0: api.OK, 1: api.OK, 39: api.OK, 40: api.OK, 41: api.ErrArg, math.MinInt: api.ErrArg, math.MaxInt: api.ErrArg, math.MaxInt - 1: api.ErrArg} {
		for _, b := range [][]byte{nil, {}, {9}, {9, 9}, of(50, 9)} {
			d := made(t, map[string][]byte{"a": of(40, 1)})
			is(t, "Write at "+strconv.Itoa(at), d.Write("a", at, b), want)
			now := of(40, 1)
			if want == api.OK {
				now = append(now, make([]byte, max(0, at+len(b)-40))...)
				copy(now[at:], b)
			}
			holds(t, d, "a", now)
		}
	}
}

// P5.1: a file of 65536 bytes, and one more.
func TestWriteRoom(t *testing.T) {
	d := made(t, map[string][]byte{"a": of(40, 1), "b": of(api.MaxFile, 2), "c": nil})
	is(t, "all at once", d.Write("c", 0, of(api.MaxFile, 3)), api.OK)
	is(t, "one too many", d.Write("a", 0, of(api.MaxFile+1, 3)), api.ErrRoom)
	is(t, "one too many at 1", d.Write("a", 1, of(api.MaxFile, 3)), api.ErrRoom)
	is(t, "one too many at its end", d.Write("a", 40, of(api.MaxFile-39, 3)), api.ErrRoom)
	is(t, "too many, at no place", d.Write("a", 41, of(api.MaxFile, 3)), api.ErrArg)
	is(t, "too many, at -1", d.Write("a", -1, of(api.MaxFile+2, 3)), api.ErrArg)
	holds(t, d, "a", of(40, 1))
	is(t, "just as many", d.Write("a", 40, of(api.MaxFile-40, 3)), api.OK)
	holds(t, d, "a", append(of(40, 1), of(api.MaxFile-40, 3)...))
	is(t, "none at the end", d.Write("b", api.MaxFile, nil), api.OK)
	is(t, "one at the end", d.Write("b", api.MaxFile, []byte{4}), api.ErrRoom)
	is(t, "one behind the end", d.Write("b", api.MaxFile+1, []byte{4}), api.ErrArg)
	is(t, "none behind the end", d.Write("b", api.MaxFile+1, nil), api.ErrArg)
	is(t, "the last one", d.Write("b", api.MaxFile-1, []byte{4}), api.OK)
	holds(t, d, "b", append(of(api.MaxFile-1, 2), 4))
	if n := d.Loose(); n != 2048+2047+1 {
		t.Errorf("%d loose", n)
	}
	is(t, "Cut at the end", d.Cut("b", api.MaxFile), api.OK)
	is(t, "Cut behind the end", d.Cut("b", api.MaxFile+1), api.ErrArg)
}

// P5.1
func TestCutPlaces(t *testing.T) {
	for n, want := range map[int]api.Errno{-1: api.ErrArg, 0: api.OK, 1: api.OK, 32: api.OK, 50: api.OK, 69: api.OK, 70: api.OK, 71: api.ErrArg, math.MinInt: api.ErrArg, math.MaxInt: api.ErrArg} {
		d := made(t, map[string][]byte{"a": of(40, 1)})
		is(t, "Write", d.Write("a", 40, of(30, 2)), api.OK)
		is(t, "Cut at "+strconv.Itoa(n), d.Cut("a", n), want)
		now := append(of(40, 1), of(30, 2)...)
		if want == api.OK {
			now = now[:n]
		}
		holds(t, d, "a", now)
		d.Crash(nil)
		holds(t, d, "a", now[:min(40, len(now))])
	}
}

// P5.1: Cut is safe at once; what is written behind it is not, and what was cut away doesn't come back.
func TestWriteBehindCut(t *testing.T) {
	for _, kept := range []bool{false, true} {
		d := made(t, map[string][]byte{"a": of(100, 1)})
		is(t, "Cut", d.Cut("a", 10), api.OK)
		if n := d.Loose(); n != 0 {
			t.Errorf("%d loose behind Cut", n)
		}
		is(t, "Write", d.Write("a", 10, of(10, 2)), api.OK)
		is(t, "Write behind it", d.Write("a", 20, of(20, 3)), api.OK)
		if n := d.Loose(); n != 2 {
			t.Errorf("%d loose", n)
		}
		d.Crash([]bool{false, kept})
		if kept {
			holds(t, d, "a", slices.Concat(of(10, 1), make([]byte, 22), of(8, 3)))
		} else {
			holds(t, d, "a", of(10, 1))
		}
	}
}

// P5.1, P5.3
func TestRename(t *testing.T) {
	d := made(t, map[string][]byte{"a": of(40, 1), "b": of(70, 2), "c": of(5, 3)})
	is(t, "Write a", d.Write("a", 0, of(40, 4)), api.OK)
	is(t, "Write b", d.Write("b", 0, of(70, 5)), api.OK)
	if n := d.Loose(); n != 5 {
		t.Errorf("%d loose", n)
	}
	is(t, "onto itself", d.Rename("a", "a"), api.OK)
	holds(t, d, "a", of(40, 4))
	if n := d.Loose(); n != 5 || !slices.Equal(d.Names(), []string{"a", "b", "c"}) {
		t.Errorf("onto itself: %d loose, %q", n, d.Names())
	}
	is(t, "onto b", d.Rename("a", "b"), api.OK)
	if n := d.Loose(); n != 2 || !slices.Equal(d.Names(), []string{"b", "c"}) {
		t.Errorf("onto another one: %d loose, %q", n, d.Names())
	}
	holds(t, d, "b", of(40, 4))
	is(t, "the old name", d.Sync("a"), api.ErrNone)
	is(t, "a new file of the old name", d.Create("a"), api.OK)
	is(t, "Write that", d.Write("a", 0, of(3, 6)), api.OK)
	d.Crash([]bool{false, false, true})
	holds(t, d, "a", nil)
	holds(t, d, "b", append(of(32, 1), of(8, 4)...))
	holds(t, d, "c", of(5, 3))
	is(t, "to 16 bytes", d.Rename("b", name16), api.OK)
	is(t, "to 17 bytes", d.Rename("c", name17), api.ErrArg)
	if !slices.Equal(d.Names(), []string{name16, "a", "c"}) {
		t.Errorf("%q", d.Names())
	}
}

// P5.1: Create, Remove and Rename are safe at once.
func TestSafeAtOnce(t *testing.T) {
	d := made(t, map[string][]byte{"a": of(3, 1), "b": of(3, 2), "c": of(3, 3)})
	is(t, "Remove", d.Remove("a"), api.OK)
	is(t, "Rename", d.Rename("b", "d"), api.OK)
	is(t, "Create", d.Create("e"), api.OK)
	is(t, "Cut", d.Cut("c", 1), api.OK)
	if d.Loose() != 0 {
		t.Errorf("%d loose", d.Loose())
	}
	d.Crash(nil)
	if !slices.Equal(d.Names(), []string{"c", "d", "e"}) {
		t.Errorf("%q", d.Names())
	}
	holds(t, d, "c", of(1, 3))
	holds(t, d, "d", of(3, 2))
	holds(t, d, "e", nil)
}

// P5.1: a sector is loose if its bytes now aren't the safe ones, however they came.
func TestLoose(t *testing.T) {
	d := made(t, map[string][]byte{"a": of(80, 1)})
	for i, c := range []struct {
		at   int
		b    []byte
		want int
	}{{0, of(80, 1), 0}, {0, nil, 0}, {31, of(2, 2), 2}, {31, of(1, 1), 1}, {32, of(1, 1), 0}, {80, nil, 0}, {80, of(1, 1), 1}, {81, of(15, 1), 1}, {96, of(1, 0), 2}, {64, of(1, 7), 2}, {0, of(97, 0), 4}} {
		is(t, "Write", d.Write("a", c.at, c.b), api.OK)
		if n := d.Loose(); n != c.want {
			t.Errorf("step %d: %d loose, not %d", i, n, c.want)
		}
	}
	is(t, "Cut", d.Cut("a", 90), api.OK)
	if n := d.Loose(); n != 3 {
		t.Errorf("%d loose behind Cut", n)
	}
	is(t, "Cut", d.Cut("a", 40), api.OK)
	if n := d.Loose(); n != 2 {
		t.Errorf("%d loose behind Cut", n)
	}
	is(t, "Sync", d.Sync("a"), api.OK)
	if n := d.Loose(); n != 0 {
		t.Errorf("%d loose behind Sync", n)
	}
}

// P5.1: two disks have nothing in common.
func TestTwoDisks(t *testing.T) {
	a, b := disk.New(), disk.New()
	a.Create("x")
	a.Fail(1)
	a.Create("y")
	if len(b.Names()) != 0 || b.Down() || !a.Down() {
		t.Errorf("%q, %v", b.Names(), b.Down())
	}
}

// P5.3: what is done to one file leaves the others, behind a Crash too.
func TestOtherFilesStay(t *testing.T) {
	for what, f := range steps("b") {
		d := made(t, map[string][]byte{"a": of(40, 1), "c": of(40, 3), "z": of(1, 9)})
		if what != "Create" {
			d.Create("b")
			d.Write("b", 0, of(70, 2))
		}
		d.Write("a", 8, of(40, 4))
		d.Write("c", 8, of(40, 5))
		is(t, what, f(d), api.OK)
		holds(t, d, "a", append(of(8, 1), of(40, 4)...))
		holds(t, d, "c", append(of(8, 3), of(40, 5)...))
		d.Crash(nil)
		holds(t, d, "a", of(40, 1))
		holds(t, d, "c", of(40, 3))
	}
}

// P5.4
func TestMemoryOfDisk(t *testing.T) {
	back := append(of(40, 1), 99, 98)
	d := disk.New()
	d.Create("a")
	d.Create("b")
	for _, name := range []string{"a", "b"} {
		is(t, "Write", d.Write(name, 0, back[:40]), api.OK)
	}
	if !bytes.Equal(back, append(of(40, 1), 99, 98)) {
		t.Errorf("Write has changed its argument: %v", back)
	}
	for i := range back {
		back[i] = 77
	}
	holds(t, d, "a", of(40, 1))
	d.Sync("a")
	b, _ := d.Read("a")
	other, _ := d.Read("a")
	for _, x := range [][]byte{b, b[:cap(b)]} {
		for i := range x {
			x[i] = 66
		}
	}
	if !bytes.Equal(other, of(40, 1)) {
		t.Errorf("two answers share: %v", other)
	}
	if n := d.Loose(); n != 2 {
		t.Errorf("%d loose", n)
	}
	holds(t, d, "a", of(40, 1))
	holds(t, d, "b", of(40, 1))
	names := d.Names()
	for i := range names[:cap(names)] {
		names[:cap(names)][i] = "x"
	}
	if !slices.Equal(d.Names(), []string{"a", "b"}) {
		t.Errorf("%q", d.Names())
	}
	d.Write("a", 0, []byte{5})
	keep := []bool{true, false, true, false, true}
	d.Crash(keep[:3])
	if !slices.Equal(keep, []bool{true, false, true, false, true}) {
		t.Errorf("Crash has changed its argument: %v", keep)
	}
	keep[0] = false
	holds(t, d, "a", append([]byte{5}, of(39, 1)...))
}

// P5.4: what Read and Sync and Crash leave shares no memory with what is written later.
func TestWriteBehindSafe(t *testing.T) {
	d := made(t, map[string][]byte{"a": of(40, 1)})
	early, _ := d.Read("a")
	is(t, "Write", d.Write("a", 0, of(60, 2)), api.OK)
	if !bytes.Equal(early, of(40, 1)) {
		t.Errorf("what was read has become %v", early)
	}
	d.Crash(nil)
	holds(t, d, "a", of(40, 1))
	is(t, "Write", d.Write("a", 0, of(60, 2)), api.OK)
	d.Crash([]bool{true})
	holds(t, d, "a", append(of(32, 2), of(8, 1)...))
	is(t, "Write", d.Write("a", 30, of(5, 3)), api.OK)
	d.Crash(nil)
	holds(t, d, "a", append(of(32, 2), of(8, 1)...))
}
