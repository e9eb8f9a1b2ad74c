package client_test

import (
	"math"
	"slices"
	"testing"

	"quillet/api"
	"quillet/client"
	"quillet/sub"
)

// P21.1: the chapter's example.
func TestExample(t *testing.T) {
	b := newBoth(t, 1, 1, 2, 3)
	b.adds(2)
	asked := func(want int64) {
		t.Helper()
		to, raw, ok := b.client.Next()
		if s, e := sub.Decode(raw); !ok || to != 1 || e != api.OK || s.Session != 1 || s.Seq != want {
			t.Errorf("Next = %d, %v, %v", to, s, ok)
		}
	}
	asked(1)
	b.heard(1, api.Verdict{Num: 5}, api.OK, 0)
	asked(2)
	b.heard(2, api.Verdict{}, api.ErrLead, 3)
	if b.client.Target() != 3 || !slices.Equal(b.client.Results(), []client.Result{{Seq: 1, Verdict: api.Verdict{Num: 5}}}) {
		t.Errorf("the target is %d, the results %v", b.client.Target(), b.client.Results())
	}
}

// P21.1: which members it has: those that may be, rising, each once; of none 1.
func TestMembers(t *testing.T) {
	many := slices.Repeat([]int{9, 6, -3, 2, 8}, 100000)
	for _, x := range []struct{ in, want []int }{
		{nil, []int{1}},
		{[]int{}, []int{1}},
		{[]int{0}, []int{1}},
		{[]int{8, -1, 0, math.MaxInt, math.MinInt, 1 << 32, 1<<32 + 3}, []int{1}},
		{[]int{1}, []int{1}},
		{[]int{7}, []int{7}},
		{[]int{4, 4, 4}, []int{4}},
		{[]int{3, 1, 9, 3, 5}, []int{1, 3, 5}},
		{[]int{8, 7, 0, 1}, []int{1, 7}},
		{[]int{7, 6, 5, 4, 3, 2, 1}, []int{1, 2, 3, 4, 5, 6, 7}},
		{[]int{2, 3}, []int{2, 3}},
		{many, []int{2, 6}},
	} {
		b := &both{t, client.New(1, x.in), saidNew(1, x.want)}
		b.told("New")
		b.adds(1)
		for range 2*len(x.want) + 1 { // all around, and again
			b.heard(1, api.Verdict{}, api.ErrDown, 0)
		}
		for lead := -2; lead <= 10; lead++ {
			b.heard(1, api.Verdict{}, api.ErrLead, lead)
		}
	}
}

// P21.1: whose session can't be, of that nothing is opened, whatever else is wrong.
func TestSessions(t *testing.T) {
	for session, right := range map[int64]bool{math.MinInt64: false, -1: false, 0: false, 1: true, 7: true, top: true, top + 1: false, math.MaxInt64: false} {
		b := newBoth(t, session, 2, 3)
		for _, w := range append(goodWishes(), badWishes()...) {
			seq, e := b.add(w)
			if !right && (seq != 0 || e != api.ErrName) {
				t.Errorf("of session %d: %s = %d, %d", session, w.name, seq, e)
			}
			b.answer(1, seq)
		}
	}
}

// P21.1: what is opened is canonised, with this session and the next number, whatever numbers it came with.
func TestAddCanonises(t *testing.T) {
	b := newBoth(t, top, 4)
	for i, w := range goodWishes() {
		seq, e := b.add(w)
		if seq != int64(i+1) || e != api.OK {
			t.Errorf("%s: Add = %d, %d", w.name, seq, e)
		}
		_, raw, _ := b.client.Next()
		if s, e := sub.Decode(raw); e != api.OK || s.Session != top || s.Seq != seq || s.Snap != w.want.Snap || !slices.Equal(s.Reads, w.want.Reads) || !slices.Equal(s.Spans, w.want.Spans) || !slices.Equal(s.Writes, w.want.Writes) {
			t.Errorf("%s: %v, %d", w.name, s, e)
		}
		b.answer(seq)
	}
}

// P21.1: what isn't opened takes no number, and changes nothing.
func TestAddErrors(t *testing.T) {
	for _, w := range badWishes() {
		b := newBoth(t, 3, 1, 2)
		if seq, e := b.add(w); seq != 0 || e != w.code {
			t.Errorf("%s: Add = %d, %d", w.name, seq, e)
		}
		b.heard(1, api.Verdict{}, api.OK, 0)
		b.heard(1, api.Verdict{}, api.ErrDown, 0)
		b.adds(1)
		b.add(w)
		if seq, e := b.add(goodWishes()[0]); seq != 2 || e != api.OK {
			t.Errorf("behind %s: Add = %d, %d", w.name, seq, e)
		}
	}
}

// P21.1, P21.2: a number that is 8 or more above the least open one isn't given, however few are open.
func TestWindow(t *testing.T) {
	for _, answered := range [][]int64{{}, {2}, {8}, {2, 3, 4, 5, 6, 7, 8}, {8, 7, 6, 5, 4, 3, 2}} {
		b := newBoth(t, 1, 1, 2, 3)
		b.adds(8)
		b.answer(answered...)
		for _, w := range append(goodWishes(), badWishes()...) { // ErrMany is ahead of Canon's error
			if seq, e := b.add(w); seq != 0 || e != api.ErrMany {
				t.Errorf("%v answered: %s: Add = %d, %d", answered, w.name, seq, e)
			}
		}
		b.heard(1, api.Verdict{}, api.ErrBusy, 2)
		b.heard(1, api.Verdict{}, api.ErrDown, 2)
		b.heard(1, api.Verdict{}, api.ErrLead, 3)
		if seq, e := b.add(goodWishes()[0]); seq != 0 || e != api.ErrMany {
			t.Errorf("%v answered: Add = %d, %d", answered, seq, e)
		}
		b.answer(1)
		if _, e := b.add(badWishes()[0]); e != api.ErrName {
			t.Errorf("%v answered, and 1: Add = %d", answered, e)
		}
		if seq, e := b.add(goodWishes()[0]); seq != 9 || e != api.OK {
			t.Errorf("%v answered, and 1: Add = %d, %d", answered, seq, e)
		}
		b.sound(9)
	}
}

// P21.1, P21.2: how many may be added behind each choice of answered ones: up to 7 above the least that is left.
func TestEveryAnswered(t *testing.T) {
	for set := range 1 << 8 {
		b := newBoth(t, 5, 1, 4)
		b.adds(8)
		least := int64(0)
		for seq := int64(8); seq >= 1; seq-- {
			if set>>(seq-1)&1 == 1 {
				b.answer(seq)
			} else {
				least = seq
			}
		}
		last := int64(8)
		for range 10 {
			if _, e := b.add(wish{}); e != api.OK {
				break
			}
			last++
		}
		if least == 0 && last != 16 || least > 0 && last != least+7 {
			t.Errorf("the least open one is %d, and the last number %d", least, last)
		}
		b.sound(last)
	}
}

// otherCodes are errors that aren't ones that Heard names, and some numbers that are no errors.
func otherCodes() []api.Errno {
	return []api.Errno{api.ErrArg, api.ErrMany, api.ErrNone, api.ErrTwice, api.ErrForm, api.ErrOrder, api.ErrDown, api.ErrOld, api.ErrGone, api.ErrFull, -1, 179, 182, 436, math.MaxInt, math.MinInt}
}

// P21.1: every answer, from every target: OK, ErrLead with every number, ErrBusy, anything else.
func TestHeard(t *testing.T) {
	for _, members := range [][]int{{1}, {6}, {2, 5}, {1, 3, 7}, {1, 2, 3, 4, 5, 6, 7}} {
		for _, target := range members {
			at := func() *both {
				b := newBoth(t, 1, members...)
				b.adds(3)
				b.heard(2, api.Verdict{}, api.ErrLead, target)
				if b.client.Target() != target {
					t.Fatalf("the target is %d, not %d", b.client.Target(), target)
				}
				return b
			}
			for _, lead := range []int{math.MinInt, -1, 0, 1, 2, 3, 4, 5, 6, 7, 8, 1<<32 + 1, math.MaxInt} {
				for seq := int64(1); seq <= 3; seq++ {
					at().heard(seq, of(seq), api.ErrLead, lead)
					at().heard(seq, of(seq), api.ErrBusy, lead)
					at().heard(seq, of(seq), api.OK, lead)
				}
				for _, e := range otherCodes() {
					at().heard(1, of(1), e, lead)
					at().heard(3, of(3), e, lead)
				}
			}
		}
	}
}

// P21.1: of what isn't open nothing is heard, whatever it is: not yet given, answered already, no number at all.
func TestHeardOfNone(t *testing.T) {
	b := newBoth(t, 1, 2, 4, 6)
	b.adds(4)
	b.answer(3, 1)
	was := b.client.Results()
	for _, seq := range []int64{math.MinInt64, -1, 0, 1, 3, 5, 6, 1 << 32, 1<<32 + 2, top, math.MaxInt64} {
		for _, e := range append(otherCodes(), api.OK, api.ErrLead, api.ErrBusy) {
			for _, lead := range []int{0, 2, 4, 5, 6} {
				b.heard(seq, api.Verdict{Num: 77}, e, lead)
			}
		}
	}
	if !slices.Equal(b.client.Results(), was) || b.client.Target() != 2 || !slices.Equal(b.client.Open(), []int64{2, 4}) {
		t.Errorf("%v, %d, %v", b.client.Results(), b.client.Target(), b.client.Open())
	}
}

// P21.1: the results stand in the order in which they were heard, each as it was heard, whatever it is.
func TestResults(t *testing.T) {
	b := newBoth(t, 1, 1)
	b.adds(8)
	verdicts := []api.Verdict{{Num: 4}, {Code: api.ErrDanger}, {}, {Code: -5, Num: -7}, {Code: math.MaxInt, Num: math.MinInt64}, {Code: api.ErrGone, Num: 9}, {Num: math.MaxInt64}, {Code: api.ErrBusy}}
	var want []client.Result
	for i, seq := range []int64{5, 8, 1, 2, 7, 3, 6, 4} {
		b.heard(seq, verdicts[i], api.OK, i)
		want = append(want, client.Result{Seq: seq, Verdict: verdicts[i]})
		if got := b.client.Results(); !slices.Equal(got, want) {
			t.Fatalf("the results are %v, not %v", got, want)
		}
	}
	if to, raw, ok := b.client.Next(); to != 0 || len(raw) != 0 || ok {
		t.Errorf("Next = %d, %v, %v", to, raw, ok)
	}
	b.sound(8)
}

// P21.1: behind its answers the target is still asked; it is the session's, not a submission's.
func TestTargetStays(t *testing.T) {
	b := newBoth(t, 1, 1, 2, 3)
	b.adds(2)
	b.heard(2, api.Verdict{}, api.ErrLead, 2)
	b.answer(1, 2)
	if to, _, ok := b.client.Next(); to != 0 || ok || b.client.Target() != 2 {
		t.Errorf("Next = %d, %v, the target is %d", to, ok, b.client.Target())
	}
	b.adds(1)
	if to, _, ok := b.client.Next(); to != 2 || !ok {
		t.Errorf("Next = %d, %v", to, ok)
	}
}

// P21.1, P21.2: numbers go on, and all results stay.
func TestManyNumbers(t *testing.T) {
	c := client.New(1, []int{1, 2})
	for seq := int64(1); seq <= 20000; seq++ {
		if n, e := c.Add(api.Sub{Snap: seq}); n != seq || e != api.OK {
			t.Fatalf("Add = %d, %d", n, e)
		}
		if seq > 5 {
			c.Heard(seq-5, of(seq-5), api.OK, 0)
		}
	}
	results := c.Results()
	for i, r := range results {
		if r.Seq != int64(i+1) || r.Verdict != of(r.Seq) {
			t.Fatalf("the result at %d is %v", i, r)
		}
	}
	if len(results) != 19995 || !slices.Equal(c.Open(), []int64{19996, 19997, 19998, 19999, 20000}) {
		t.Errorf("%d results, %v are open", len(results), c.Open())
	}
}
