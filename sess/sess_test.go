package sess_test

import (
	"math"
	"testing"

	"quillet/api"
	"quillet/sess"
)

// P13.1: the document's example.
func TestExample(t *testing.T) {
	b := newBoth().puts(t, 1, 3)
	if v, e := b.table.Look(1, 3); v != of(1, 3) || e != api.ErrTwice {
		t.Errorf("Look(1, 3) = %v, %d", v, e)
	}
	b.must(t, 1, 2, api.OK)
	b.puts(t, 1, 11)
	b.must(t, 1, 3, api.ErrGone)
	b.must(t, 1, 4, api.OK)
}

// P13.1: a new Table has nothing.
func TestNew(t *testing.T) {
	b := newBoth()
	b.told(t, "new")
	b.around(t)
	if got := string(b.table.Bytes()); got != "\x00" {
		t.Errorf("the bytes are %q", got)
	}
	if len(b.table.Sessions()) > 0 || b.table.Highest(1) != 0 || len(b.table.Kept(1)) > 0 {
		t.Error("there is something")
	}
	other := sess.New()
	b.puts(t, 1, 1)
	if len(other.Sessions()) > 0 {
		t.Error("two Tables share")
	}
}

// edges are numbers that may be, and numbers that may not.
func edges() (good, bad []int64) {
	return []int64{1, 2, top - 1, top, 1 << 32, 1<<31 - 1}, []int64{0, -1, top + 1, math.MaxInt64, math.MinInt64, -top}
}

// P13.1: ErrName.
func TestNames(t *testing.T) {
	good, bad := edges()
	for _, session := range good {
		for _, seq := range good {
			b := newBoth()
			b.must(t, session, seq, api.OK)
			b.puts(t, session, seq)
			b.must(t, session, seq, api.ErrTwice)
			b.around(t)
		}
	}
	for _, x := range bad {
		for _, y := range append(good, bad...) {
			b := newBoth()
			b.must(t, x, y, api.ErrName)
			b.must(t, y, x, api.ErrName)
			for _, v := range []api.Verdict{{}, {Num: 5}, {Code: -1}, {Num: -1}} {
				if b.put(t, x, y, v) != api.ErrName || b.put(t, y, x, v) != api.ErrName {
					t.Errorf("Put of %d and %d", x, y)
				}
			}
			b.puts(t, 1, 20)
			b.must(t, x, 20, api.ErrName)
			b.must(t, 1, x, api.ErrName)
			b.must(t, x, 1, api.ErrName)
		}
	}
}

// full is a Table of as many sessions as may be: 10, 20 and so on.
func full(t *testing.T, n int64) *both {
	t.Helper()
	b := newBoth()
	for id := int64(1); id <= n; id++ {
		b.puts(t, 10*id, 20)
	}
	return b
}

// P13.1: how many sessions there may be.
func TestHowManySessions(t *testing.T) {
	b := full(t, 15)
	b.must(t, 5, 1, api.OK)
	b.must(t, 160, 1, api.OK)
	b.puts(t, 160, 20)
	if n := len(b.table.Sessions()); n != 16 {
		t.Fatalf("there are %d sessions", n)
	}
	for _, id := range []int64{1, 5, 9, 11, 159, 161, 170, top} {
		for _, seq := range []int64{1, 12, 20, top} {
			b.must(t, id, seq, api.ErrFull)
			for _, v := range []api.Verdict{{}, {Code: -1}, {Code: 1000}, {Num: -1}, {Num: top + 1}} {
				if e := b.put(t, id, seq, v); e != api.ErrFull {
					t.Errorf("Put(%d, %d, %v) = %d", id, seq, v, e)
				}
			}
		}
	}
	// A session that is there goes on.
	for id := int64(10); id <= 160; id += 10 {
		b.must(t, id, 12, api.ErrGone)
		b.must(t, id, 13, api.OK)
		b.must(t, id, 20, api.ErrTwice)
		b.puts(t, id, 13, 21, 100)
	}
	b.must(t, 5, 1, api.ErrFull)
	b.around(t)
}

// P13.1: which error comes where more than one would be right.
func TestOrderOfErrors(t *testing.T) {
	b := full(t, 16)
	wrongs := []api.Verdict{{Code: -1}, {Code: 1000}, {Num: -1}, {Num: top + 1}, {Code: 1000, Num: -1}}
	for _, c := range []struct {
		session, seq int64
		e            api.Errno
	}{
		{10, 20, api.ErrTwice},
		{0, 20, api.ErrName},             // and no such session
		{top + 1, 20, api.ErrName},       // likewise
		{7, 0, api.ErrName},              // likewise
		{7, top + 1, api.ErrName},        // likewise
		{10, 0, api.ErrName},             // and at most the highest less Window
		{10, -1, api.ErrName},            // likewise
		{10, math.MinInt64, api.ErrName}, // likewise
		{7, 1, api.ErrFull},
		{10, 12, api.ErrGone},
		{10, 1, api.ErrGone},
	} {
		b.must(t, c.session, c.seq, c.e)
		for _, v := range append(wrongs, api.Verdict{}) {
			if e := b.put(t, c.session, c.seq, v); e != c.e {
				t.Errorf("Put(%d, %d, %v) = %d, not %d", c.session, c.seq, v, e, c.e)
			}
		}
	}
	for _, v := range wrongs {
		if e := b.put(t, 10, 19, v); e != api.ErrArg {
			t.Errorf("Put(10, 19, %v) = %d", v, e)
		}
	}
}

// P13.1: verdicts that may be put; one that may not makes no session and moves no window.
func TestVerdicts(t *testing.T) {
	for _, c := range []struct {
		code api.Errno
		num  int64
		ok   bool
	}{
		{0, 0, true}, {0, 1, true}, {0, top, true}, {999, 0, true}, {999, top, true}, {998, top - 1, true}, {api.ErrOld, 0, true}, {500, 7, true}, {1, 1, true},
		{-1, 0, false}, {1000, 0, false}, {0, -1, false}, {0, top + 1, false}, {-1, -1, false}, {1000, top + 1, false}, {-1, top, false}, {999, top + 1, false}, {999, -1, false}, {1000, top, false},
		{math.MaxInt32, 0, false}, {math.MinInt32, 0, false}, {0, math.MaxInt64, false}, {0, math.MinInt64, false},
	} {
		v := api.Verdict{Code: c.code, Num: c.num}
		want := api.OK
		if !c.ok {
			want = api.ErrArg
		}
		b := newBoth()
		if e := b.put(t, 4, 20, v); e != want {
			t.Errorf("Put of %v = %d", v, e)
		}
		if got, e := b.table.Look(4, 20); c.ok && (got != v || e != api.ErrTwice) {
			t.Errorf("%v was put, and is told as %v, %d", v, got, e)
		}
		b = newBoth().puts(t, 4, 20)
		if e := b.put(t, 4, 100, v); e != want {
			t.Errorf("Put of %v above = %d", v, e)
		}
		if _, e := b.table.Look(4, 20); !c.ok && e != api.ErrTwice {
			t.Errorf("%v was refused, and 20 is %d", v, e)
		}
		b.around(t)
	}
}

// P13.1, P13.2: the window's ends.
func TestWindow(t *testing.T) {
	for _, high := range []int64{1, 2, 7, 8, 9, 10, 16, 17, 100, top - 1, top} {
		b := newBoth().puts(t, 1, high)
		if b.table.Highest(1) != high {
			t.Errorf("the highest is %d", b.table.Highest(1))
		}
		for seq := max(1, high-20); seq <= min(top, high+20); seq++ {
			want := api.OK
			switch {
			case seq <= high-8:
				want = api.ErrGone
			case seq == high:
				want = api.ErrTwice
			}
			b.must(t, 1, seq, want)
		}
		b.around(t)
		// Below the highest, the window stays.
		for seq := max(1, high-7); seq < high; seq++ {
			b.puts(t, 1, seq)
		}
		if n := len(b.table.Kept(1)); int64(n) != min(high, 8) || b.table.Highest(1) != high {
			t.Errorf("%d are kept up to %d", n, b.table.Highest(1))
		}
		b.around(t)
	}
}

// P13.2: what falls out of the window goes, by whatever number.
func TestOutOfTheWindow(t *testing.T) {
	for step := int64(1); step <= 12; step++ {
		b := newBoth().puts(t, 1, 10, 8, 3, 5, 9, 4, 7, 6)
		b.puts(t, 1, 10+step)
		if n := len(b.table.Kept(1)); int64(n) != max(0, 8-step)+1 {
			t.Errorf("%d above: %d are kept", step, n)
		}
		for seq := int64(1); seq <= 10; seq++ {
			want := api.ErrTwice
			if seq <= 2+step {
				want = api.ErrGone
			}
			b.must(t, 1, seq, want)
			if e := b.put(t, 1, seq, api.Verdict{}); e != want {
				t.Errorf("%d above: Put(1, %d) = %d", step, seq, e)
			}
		}
		b.around(t)
	}
	// Of another session nothing goes.
	b := newBoth().puts(t, 1, 5).puts(t, 2, 5).puts(t, 1, top)
	b.must(t, 1, 5, api.ErrGone)
	b.must(t, 2, 5, api.ErrTwice)
	b.must(t, 1, top-7, api.OK)
	b.must(t, 1, top-8, api.ErrGone)
}

// P13.2: a number that was left out may be put as long as it is in the window; one that wasn't put is gone too.
func TestOutOfOrder(t *testing.T) {
	b := newBoth().puts(t, 1, 1, 5, 3, 9, 2, 8, 4)
	b.must(t, 1, 1, api.ErrGone)
	b.must(t, 1, 6, api.OK)
	b.must(t, 1, 7, api.OK)
	b.puts(t, 1, 12)
	b.must(t, 1, 4, api.ErrGone)
	b.must(t, 1, 5, api.ErrTwice)
	b.puts(t, 1, 6)
	b.puts(t, 1, 15)
	b.must(t, 1, 7, api.ErrGone)
	b.must(t, 1, 8, api.ErrTwice)
	b.must(t, 1, 10, api.OK)
	b.around(t)
}

// P13.1: sessions are told rising, in whatever order they came.
func TestSessionsRise(t *testing.T) {
	b := newBoth()
	for _, id := range []int64{top, 5, 1, 1 << 33, 9, 2, 1 << 32, 8, 3, top - 1, 7} {
		b.puts(t, id, 3, 1, 2)
	}
	b.around(t)
}

// P13.1: the form of the bytes, written out once.
func TestBytesForm(t *testing.T) {
	b := newBoth()
	b.put(t, 64, 1, api.Verdict{Code: api.ErrOld})
	b.put(t, 2, 9, api.Verdict{Num: 64})
	b.put(t, 2, 3, api.Verdict{Code: 999, Num: 3})
	want := "\x04" + // two sessions
		"\x04\x12\x04" + "\x06\xce\x0f\x06" + "\x12\x00\x80\x01" + // 2, up to 9, two
		"\x80\x01\x02\x02" + "\x02\xdc\x01\x00" // 64, up to 1, one
	if got := string(b.table.Bytes()); got != want {
		t.Errorf("the bytes are %q, not %q", got, want)
	}
}
