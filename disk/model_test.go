package disk_test

import (
	"bytes"
	"maps"
	"math/rand/v2"
	"slices"
	"testing"

	"quillet/api"
	"quillet/disk"
)

// model says by the document's words, byte by byte, what a disk does.
type model struct {
	files map[string]said
	off   bool
	left  int // steps up to the one at which the power goes
}

type said struct{ now, safe string }

func newModel() *model { return &model{files: map[string]said{}} }

func (m *model) step(names ...string) api.Errno {
	if m.left > 0 {
		m.left--
		m.off = m.off || m.left == 0
	}
	return m.fault(names...)
}

func (m *model) fault(names ...string) api.Errno {
	if m.off {
		return api.ErrDown
	}
	for _, n := range names {
		if len(n) < 1 || len(n) > 16 {
			return api.ErrArg
		}
	}
	return api.OK
}

// on is what a step on a file answers that may be done at 0 to its length; change does it.
func (m *model) on(name string, at int, change func(f said) (said, api.Errno)) api.Errno {
	if e := m.step(name); e != api.OK {
		return e
	}
	f, ok := m.files[name]
	if !ok {
		return api.ErrNone
	}
	if at < 0 || at > len(f.now) {
		return api.ErrArg
	}
	f, e := change(f)
	if e == api.OK {
		m.files[name] = f
	}
	return e
}

func (m *model) create(name string) api.Errno {
	if e := m.step(name); e != api.OK {
		return e
	}
	if _, ok := m.files[name]; ok {
		return api.ErrTwice
	}
	if len(m.files) == 256 {
		return api.ErrMany
	}
	m.files[name] = said{}
	return api.OK
}

func (m *model) rename(name, to string) api.Errno {
	if e := m.step(name, to); e != api.OK {
		return e
	}
	f, ok := m.files[name]
	if !ok {
		return api.ErrNone
	}
	delete(m.files, name)
	m.files[to] = f
	return api.OK
}

func (m *model) remove(name string) api.Errno {
	e := m.on(name, 0, func(f said) (said, api.Errno) { return f, api.OK })
	if e == api.OK {
		delete(m.files, name)
	}
	return e
}

func (m *model) write(name string, at int, b string) api.Errno {
	return m.on(name, at, func(f said) (said, api.Errno) {
		if at+len(b) > 65536 {
			return f, api.ErrRoom
		}
		return said{f.now[:at] + b + f.now[min(at+len(b), len(f.now)):], f.safe}, api.OK
	})
}

func (m *model) cut(name string, n int) api.Errno {
	return m.on(name, n, func(f said) (said, api.Errno) { return said{f.now[:n], f.safe[:min(n, len(f.safe))]}, api.OK })
}

func (m *model) sync(name string) api.Errno {
	return m.on(name, 0, func(f said) (said, api.Errno) { return said{f.now, f.now}, api.OK })
}

func (m *model) read(name string) (string, api.Errno) {
	if e := m.fault(name); e != api.OK {
		return "", e
	}
	f, ok := m.files[name]
	if !ok {
		return "", api.ErrNone
	}
	return f.now, api.OK
}

func (m *model) names() []string { return slices.Sorted(maps.Keys(m.files)) }

// piece is the bytes of a sector, by its number.
func piece(b string, i int) string { return b[min(32*i, len(b)):min(32*i+32, len(b))] }

// loose is the numbers of a file's loose sectors.
func (f said) loose() []int {
	var out []int
	for i := 0; 32*i < len(f.now); i++ {
		if piece(f.now, i) != piece(f.safe, i) {
			out = append(out, i)
		}
	}
	return out
}

func (m *model) loose() int {
	n := 0
	for _, f := range m.files {
		n += len(f.loose())
	}
	return n
}

func (m *model) crash(keep []bool) {
	n := 0
	for _, name := range m.names() {
		f := m.files[name]
		long, kept := len(f.safe), map[int]bool{}
		for _, i := range f.loose() {
			if n < len(keep) && keep[n] {
				kept[i] = true
				long = max(long, 32*i+len(piece(f.now, i)))
			}
			n++
		}
		after := make([]byte, long)
		for p := range after {
			if kept[p/32] {
				after[p] = f.now[p]
			} else if p < len(f.safe) {
				after[p] = f.safe[p]
			}
		}
		m.files[name] = said{string(after), string(after)}
	}
	m.off, m.left = false, 0
}

// both is a disk and its model, to which the same is done.
type both struct {
	t *testing.T
	d *disk.Disk
	m *model
}

func newBoth(t *testing.T) both { return both{t, disk.New(), newModel()} }

func (b both) same(what string, got, want api.Errno) {
	b.t.Helper()
	if got != want {
		b.t.Fatalf("%s = %d, not %d", what, got, want)
	}
}

func (b both) create(name string) { b.t.Helper(); b.same("Create", b.d.Create(name), b.m.create(name)) }
func (b both) remove(name string) { b.t.Helper(); b.same("Remove", b.d.Remove(name), b.m.remove(name)) }
func (b both) sync(name string)   { b.t.Helper(); b.same("Sync", b.d.Sync(name), b.m.sync(name)) }
func (b both) cut(name string, n int) {
	b.t.Helper()
	b.same("Cut", b.d.Cut(name, n), b.m.cut(name, n))
}
func (b both) rename(name, to string) {
	b.t.Helper()
	b.same("Rename", b.d.Rename(name, to), b.m.rename(name, to))
}
func (b both) write(name string, at int, text string) {
	b.t.Helper()
	b.same("Write", b.d.Write(name, at, []byte(text)), b.m.write(name, at, text))
}
func (b both) crash(keep ...bool) { b.d.Crash(keep); b.m.crash(keep) }
func (b both) fail(n int)         { b.d.Fail(n); b.m.left = max(0, n) }

// look holds all that a disk tells against its model.
func (b both) look(names ...string) {
	b.t.Helper()
	if !slices.Equal(b.d.Names(), b.m.names()) || b.d.Loose() != b.m.loose() || b.d.Down() != b.m.off {
		b.t.Fatalf("%q, %d loose, off: %v; not %q, %d, %v", b.d.Names(), b.d.Loose(), b.d.Down(), b.m.names(), b.m.loose(), b.m.off)
	}
	for _, name := range append(names, b.m.names()...) {
		got, e := b.d.Read(name)
		want, f := b.m.read(name)
		if e != f || string(got) != want {
			b.t.Fatalf("Read(%q) = %q, %d, not %q, %d", name, got, e, want, f)
		}
	}
}

// any does something, by chance.
func (b both) any(rnd *rand.Rand) {
	b.t.Helper()
	pick := func() string {
		if rnd.IntN(16) == 0 {
			return []string{"", name16, name17}[rnd.IntN(3)]
		}
		return []string{"a", "b", "aa", "c"}[rnd.IntN(4)]
	}
	text := string(bytes.Repeat([]byte{byte(rnd.IntN(3))}, rnd.IntN(90)))
	name := pick()
	long := len(b.m.files[name].now)
	at := []int{0, long, rnd.IntN(long + 1), rnd.IntN(long+3) - 1, long + 1, -1}[rnd.IntN(6)]
	switch rnd.IntN(12) {
	case 0, 1:
		b.create(name)
	case 2:
		b.rename(name, pick())
	case 3:
		b.cut(name, at)
	case 4, 5:
		b.sync(name)
	case 6:
		b.crash(flags(rnd, b.m.loose())...)
	case 7:
		if rnd.IntN(3) == 0 {
			b.fail(rnd.IntN(12) - 2)
		} else {
			b.remove(name)
		}
	default:
		b.write(name, at, text)
	}
}

// flags is about as many flags as there are loose sectors.
func flags(rnd *rand.Rand, loose int) []bool {
	keep := make([]bool, max(0, loose+rnd.IntN(5)-2))
	for i := range keep {
		keep[i] = rnd.IntN(2) == 0
	}
	return keep
}

// P5.1 to P5.3: many calls in many orders; all that is told is looked at behind each.
func TestManyOrders(t *testing.T) {
	for seed := range uint64(400) {
		rnd := rand.New(rand.NewPCG(5, seed))
		b := newBoth(t)
		for range 150 {
			b.any(rnd)
			b.look("a", "b", "", name16, name17)
		}
	}
}

// few is steps of which every order is tried.
func few() []func(b both) {
	long := string(bytes.Repeat([]byte{7}, 70))
	return []func(b both){
		func(b both) { b.write("a", 0, long[:40]) },
		func(b both) { b.write("a", len(b.m.files["a"].now), long[:30]) },
		func(b both) { b.write("a", len(b.m.files["a"].now)/2, "xy") },
		func(b both) { b.cut("a", len(b.m.files["a"].now)/2) },
		func(b both) { b.sync("a") },
		func(b both) { b.rename("a", "b"); b.create("a") },
		func(b both) { b.rename("b", "a") },
	}
}

// P5.1, P5.2: every order of five steps, with a crash behind it, each of whose loose sectors is kept or not.
func TestEveryOrderWithEveryCrash(t *testing.T) {
	steps := few()
	orders := 1
	for range 5 {
		orders *= len(steps)
	}
	run := func(order int) both {
		b := newBoth(t)
		b.create("a")
		for range 5 {
			steps[order%len(steps)](b)
			order /= len(steps)
		}
		return b
	}
	for order := range orders {
		first := run(order)
		first.look("a", "b")
		loose := first.m.loose()
		for mask := range 1 << loose {
			keep := make([]bool, loose)
			for i := range keep {
				keep[i] = mask&(1<<i) != 0
			}
			b := run(order)
			b.crash(keep...)
			b.look("a", "b")
		}
	}
}
