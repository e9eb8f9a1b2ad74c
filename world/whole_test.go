package world_test

import (
	"bytes"
	"fmt"
	"math"
	"reflect"
	"slices"
	"testing"

	"quillet/api"
	"quillet/cert"
	"quillet/client"
	"quillet/conf"
	"quillet/disk"
	"quillet/flo"
	"quillet/hard"
	"quillet/machine"
	"quillet/msg"
	"quillet/pack"
	"quillet/serial"
	"quillet/sess"
	"quillet/snap"
	"quillet/span"
	"quillet/sub"
	"quillet/wal"
	"quillet/world"
)

// P1 to P5: the examples of the whole that need no World.
func TestExamplesOfLayers(t *testing.T) {
	half := func(lo, hi float64, loOpen, hiOpen bool) api.Span {
		return api.Span{Lo: lo, Hi: hi, LoOpen: loOpen, HiOpen: hiOpen}
	}
	joined, ok := span.Join(half(1, 2, false, true), half(2, 3, false, false))
	_, none := span.Join(half(1, 2, true, true), half(2, 3, true, false))
	numbers, _ := pack.Put([]pack.Val{{Kind: pack.Num, N: -1}, {Kind: pack.Num, N: 64}})

	d := disk.New()
	d.Create("a")
	d.Write("a", 0, bytes.Repeat([]byte{7}, 64))
	d.Crash([]bool{false, true})
	lost, _ := d.Read("a")

	d = disk.New()
	log, _ := wal.Open(d)
	log.Append(api.Entry{Index: 1})
	log.Sync()
	log.Append(api.Entry{Index: 2})
	d.Crash(nil)
	log, _ = wal.Open(d)

	raw, _ := sub.Encode(api.Sub{Session: 1, Seq: 1, Writes: []float64{1}})
	m := machine.New(cert.Conf{})
	one, _ := m.Apply(api.Entry{Index: 1, Kind: api.Submit, Data: raw})
	two, _ := m.Apply(api.Entry{Index: 2, Kind: api.Submit, Data: raw})

	for n, holds := range []bool{
		flo.Cmp(math.NaN(), math.Inf(-1)) == -1 && flo.Code(flo.Next(-math.SmallestNonzeroFloat64)) == flo.Code(0),
		ok && joined == half(1, 3, false, false) && !none,
		slices.Equal(numbers, []byte{1, 128, 1}),
		slices.Equal(lost, append(make([]byte, 32), bytes.Repeat([]byte{7}, 32)...)),
		len(log.Entries()) == 1 && log.Last() == 1,
		one.Fresh && !two.Fresh && one.Verdict == two.Verdict && m.Count() == 1,
		conf.Quorum(api.Conf{Voters: []int{1, 2, 3}}, []int{3, 1}) && !conf.Quorum(api.Conf{Voters: []int{1, 2, 3}}, []int{2}),
	} {
		if !holds {
			t.Errorf("example %d doesn't hold", n)
		}
	}
}

// P5: two with Snap 0, of which each reads what the other one writes: the first commits, the second doesn't; both together would have no order.
func TestExampleOfTwo(t *testing.T) {
	b := led(t, 3, 0, 2)
	first, second := api.Sub{Reads: []float64{1}, Writes: []float64{2}}, api.Sub{Reads: []float64{2}, Writes: []float64{1}}
	b.ask(1, first)
	b.ask(2, second)
	b.calm(3)
	b.results(1, verdict(1, 1))
	b.results(2, client.Result{Seq: 1, Verdict: api.Verdict{Code: api.ErrDanger}})
	h := b.world.History()
	if order, ok := serial.Order(h); !ok || len(order) != 1 {
		t.Errorf("the order is %v", order)
	}
	second.Session, second.Seq = 2, 1
	if _, ok := serial.Order(append(h, api.Done{Num: 2, Sub: second})); ok {
		t.Error("both have an order")
	}
}

// P6: three members, one without power: all goes on; two: nothing is decided; with power again all is.
func TestExampleOfPower(t *testing.T) {
	x := watch(t, small(3, 0, 1))
	w := x.seen.world
	w.Calm(20)
	goOn := func(up ...int) {
		for range 60 {
			for _, n := range up {
				x.do(step(world.Tick, n))
			}
			x.do(step(world.Poll, 1))
			for x.do(step(world.Deliver, 0)) == api.OK {
				continue
			}
		}
		x.holds()
	}
	for lost := 1; lost <= 3; lost++ {
		x.do(step(world.Crash, lost))
		x.do(world.Step{Kind: world.Ask, N: 1, Sub: writes(float64(lost))})
		goOn(1, 2, 3)
		if got := len(w.Client(1).Results()); got != lost {
			t.Fatalf("without %d are %d results", lost, got)
		}
		x.do(step(world.Start, lost))
		goOn(1, 2, 3)
	}
	for left := 1; left <= 3; left++ {
		for n := 1; n <= 3; n++ {
			if n != left {
				x.do(step(world.Crash, n))
			}
		}
		x.do(world.Step{Kind: world.Ask, N: 1, Sub: writes(9)})
		was := w.Decided()
		goOn(left)
		if !slices.Equal(w.Decided(), was) || len(w.Client(1).Open()) != 1 {
			t.Fatalf("%d alone has decided %v", left, w.Decided())
		}
		x.calm()
	}
}

// back writes a thing, reads it, and writes what was read.
func back[T any](t *testing.T, x T, write func(T) ([]byte, api.Errno), read func([]byte) (T, api.Errno)) {
	t.Helper()
	b, e := write(x)
	if e != api.OK {
		t.Fatalf("%v has no bytes: %d", x, e)
	}
	y, e := read(b)
	if e != api.OK {
		t.Fatalf("%v of %v isn't read: %d", b, x, e)
	}
	again, e := write(y)
	if say(reflect.ValueOf(x)) != say(reflect.ValueOf(y)) || e != api.OK || !bytes.Equal(again, b) {
		t.Fatalf("%v is read back as %v", x, y)
	}
}

// P3: what is written by value is read back as the same.
func TestReadBack(t *testing.T) {
	for seed := range 1500 {
		d := seeded(3, seed)
		x := d.float()
		if y, ok := flo.From(flo.Code(x)); !ok || flo.Cmp(x, y) != 0 {
			t.Fatalf("%v has the code of %v", x, y)
		}
		if y, ok := flo.Parse(flo.Text(x)); !ok || flo.Cmp(x, y) != 0 {
			t.Fatalf("%v has the text of %v", x, y)
		}
		back(t, []pack.Val{{Kind: pack.Num, N: d.number()}, {Kind: pack.Key, X: flo.Canon(x)}, {Kind: pack.Bytes, B: d.raw()}, {Kind: pack.Flag, On: d.IntN(2) == 0}}, pack.Put, func(b []byte) ([]pack.Val, api.Errno) {
			return pack.Get(b, []int{pack.Num, pack.Key, pack.Bytes, pack.Flag})
		})
		back(t, d.raw(), pack.Frame, func(b []byte) ([]byte, api.Errno) {
			payload, _, e := pack.Unframe(b)
			return payload, e
		})
		back(t, d.right(), sub.Encode, sub.Decode)
		back(t, d.members(), conf.Bytes, conf.Load)
		back(t, d.message(), msg.Encode, msg.Decode)
		back(t, snap.Snap{Index: 1 + d.Int64N(9), Term: d.Int64N(9), Conf: d.members(), Data: d.raw()}, snap.Bytes, snap.Read)
	}
}

// P3: a Cert, a Table and a Machine that are loaded answer the same from then on.
func TestLoadedAnswersTheSame(t *testing.T) {
	for seed := range 60 {
		d := seeded(4, seed)
		size := cert.Conf{Keep: 1 + d.IntN(5), Old: d.IntN(9)}
		c, s, m := cert.New(size), sess.New(), machine.New(size)
		for i := range int64(60) {
			loaded, e := cert.Load(size, c.Bytes())
			table, e2 := sess.Load(s.Bytes())
			twin, e3 := machine.Load(size, m.Index(), m.Bytes())
			if e != api.OK || e2 != api.OK || e3 != api.OK {
				t.Fatalf("%d, %d, %d", e, e2, e3)
			}
			x := d.right()
			x.Seq, x.Snap = 1+i/2, max(0, m.Count()-d.Int64N(4))
			v := c.Decide(x)
			if got := loaded.Decide(x); got != v {
				t.Fatalf("a Cert decides %v, when it is loaded %v", v, got)
			}
			code := s.Put(x.Session, x.Seq, v)
			if got := table.Put(x.Session, x.Seq, v); got != code {
				t.Fatalf("a Table answers %d, when it is loaded %d", code, got)
			}
			raw, _ := sub.Encode(x)
			entry := api.Entry{Index: i + 1, Kind: api.Submit, Data: raw}
			a, _ := m.Apply(entry)
			if got, e := twin.Apply(entry); got != a || e != api.OK || !bytes.Equal(twin.Bytes(), m.Bytes()) {
				t.Fatalf("a Machine answers %v, when it is loaded %v", a, got)
			}
		}
	}
}

// desk is a disk that a Hard, a Store and a Wal share, as those of a member do, and what they must have.
type desk struct {
	t       *testing.T
	d       dice
	disk    *disk.Disk
	hard    *hard.Hard
	store   *snap.Store
	wal     *wal.Wal
	terms   []int64 // the last that was saved, and perhaps one that was about to be
	snaps   []int64
	synced  int64 // the last entry that was synced
	written int64 // the last entry that may be there
}

func (x *desk) open() {
	x.t.Helper()
	var e, e2, e3 api.Errno
	x.hard, e = hard.Open(x.disk)
	x.store, e2 = snap.Open(x.disk)
	x.wal, e3 = wal.Open(x.disk)
	if e != api.OK || e2 != api.OK || e3 != api.OK {
		x.t.Fatalf("%d, %d, %d", e, e2, e3)
	}
	last, _ := x.store.Last()
	switch {
	case !slices.Contains(x.terms, x.hard.Term()) || x.hard.Vote() != int(x.hard.Term()%8):
		x.t.Fatalf("the term is %d, of %v", x.hard.Term(), x.terms)
	case !slices.Contains(x.snaps, last.Index) || last.Index > 0 && !bytes.Equal(last.Data, content(last.Index)):
		x.t.Fatalf("the snapshot is %d, of %v", last.Index, x.snaps)
	case x.wal.Last() < x.synced || x.wal.Last() > x.written:
		x.t.Fatalf("the last entry is %d, synced was %d, written %d", x.wal.Last(), x.synced, x.written)
	}
	for _, e := range x.wal.Entries() {
		if !bytes.Equal(e.Data, content(e.Index)) {
			x.t.Fatalf("the entry %d is %v", e.Index, e)
		}
	}
	x.terms, x.snaps = []int64{x.hard.Term()}, []int64{last.Index}
	x.synced, x.written = x.wal.Last(), x.wal.Last()
}

// content is what stands at an index, of any length.
func content(index int64) []byte {
	return bytes.Repeat([]byte{byte(index), byte(index >> 3), 0, 1}, int(index*37%90))
}

// happen is something that is kept; where it fails, what is there is known behind another open alone.
func (x *desk) happen() api.Errno {
	var e api.Errno
	switch x.d.IntN(5) {
	case 0:
		next := x.hard.Term() + 1
		x.terms = append(x.terms, next)
		if e = x.hard.Save(next, int(next%8)); e == api.OK {
			x.terms = []int64{next}
		}
	case 1:
		last, _ := x.store.Last()
		next := last.Index + 1 + x.d.Int64N(3)
		x.snaps = append(x.snaps, next)
		if e = x.store.Put(snap.Snap{Index: next, Conf: api.Conf{Voters: []int{1}}, Data: content(next)}); e == api.OK {
			x.snaps = []int64{next}
		}
	case 2, 3:
		x.written = max(x.written, x.wal.Last()+1)
		e = x.wal.Append(api.Entry{Index: x.wal.Last() + 1, Kind: api.Submit, Data: content(x.wal.Last() + 1)})
	default:
		if e = x.wal.Sync(); e == api.OK {
			x.synced = x.wal.Last()
		}
	}
	return e
}

// P4: what was synced is there behind every loss of power, and nothing that wasn't written: of all that lies on one disk.
func TestOneDisk(t *testing.T) {
	for i := range 8 {
		t.Run(fmt.Sprint(i), func(t *testing.T) {
			t.Parallel()
			for seed := range 100 {
				d := seeded(5, 1000*i+seed)
				x := &desk{t: t, d: d, disk: disk.New(), terms: []int64{0}, snaps: []int64{0}}
				x.open()
				for range 12 {
					x.disk.Fail(1 + d.IntN(60))
					for range 40 {
						if x.happen() != api.OK {
							break
						}
					}
					x.disk.Crash(d.keep())
					x.open()
				}
			}
		})
	}
}
