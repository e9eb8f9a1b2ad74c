package node_test

import (
	"bytes"
	"math/rand/v2"
	"slices"
	"testing"

	"quillet/api"
	"quillet/msg"
	"quillet/node"
)

// letterBytes are messages of each kind that would change a member.
func letterBytes(t *testing.T, b *both) [][]byte {
	n, term, last, lastTerm := b.has()
	now := max(1, term) + 1
	var out [][]byte
	for _, m := range append([]api.Msg{
		{Kind: api.PreAsk, From: 3, To: n, Term: now, Index: last + 1, LogTerm: lastTerm},
		{Kind: api.PreSay, From: 3, To: n, Term: now},
		{Kind: api.Ask, From: 3, To: n, Term: now, Index: last, LogTerm: lastTerm},
		{Kind: api.Say, From: 3, To: n, Term: now, Ok: true},
		{Kind: api.Got, From: 3, To: n, Term: now, Index: last, Ok: true},
		{Kind: api.Took, From: 3, To: n, Term: now, Index: 3, Last: true},
		appended(now, last, lastTerm, last+1, run(last+1, last+2, now)...),
	}, pieces(now, comes(last+2, now, 1))...) {
		raw, code := msg.Encode(m)
		if code != api.OK {
			t.Fatalf("%v: %d", m, code)
		}
		out = append(out, raw)
	}
	return out
}

// P20.3: bytes that are no message change nothing at all: cut short, grown, turned, or of something else. No step of the disk is done either, at which the power would go.
func TestNoMessage(t *testing.T) {
	for i := range starts(t) {
		b := starts(t)[i]()
		b.fail(1)
		no := func(raw []byte) {
			t.Helper()
			if code := b.bytes(raw); code != api.ErrForm {
				t.Fatalf("Receive(%v) = %d", raw, code)
			}
		}
		no(nil)
		no([]byte{})
		no([]byte("noise"))
		no(asked(1, 1, 0, 1))
		no(make([]byte, 70000))
		for _, raw := range letterBytes(t, b) {
			for n := range raw {
				no(raw[:n])
				turned := slices.Clone(raw)
				turned[n] ^= 1 << (n % 8)
				no(turned)
			}
			no(append(slices.Clone(raw), 0))
			no(slices.Concat(raw, raw))
		}
		d := rand.New(rand.NewPCG(203, uint64(i)))
		for range 2000 {
			raw := make([]byte, d.IntN(60))
			for k := range raw {
				raw[k] = byte(d.IntN(256) & d.IntN(256))
			}
			no(raw)
		}
		b.none("no message")
		if len(b.applied()) != 0 || b.node.Down() || b.disk.Down() {
			t.Error("something was done")
		}
	}
}

// P20.3: a submission's bytes that aren't are refused likewise.
func TestNoSubmission(t *testing.T) {
	b := starts(t)[1]()
	b.fail(1)
	raw := asked(1, 5, 0, 1, 2)
	for n := range raw {
		if v, code := b.submit(raw[:n]); code != api.ErrForm || v != (api.Verdict{}) {
			t.Errorf("%d bytes: %v, %d", n, v, code)
		}
	}
	for _, x := range letterBytes(t, b) {
		if _, code := b.submit(x); code != api.ErrForm {
			t.Errorf("a message: %d", code)
		}
	}
	if b.disk.Down() {
		t.Error("a step was done")
	}
}

// P20.1: a message that is one, but to another member, or from one that doesn't belong to it, is answered OK.
func TestMessagesOfOthers(t *testing.T) {
	b := of(t, 2, 1, 2)
	b.fail(1)
	if b.step(api.Msg{Kind: api.Ask, From: 1, To: 3, Term: 9}) != api.OK || b.node.Core().Term() != 0 {
		t.Error("to another one")
	}
	b.none("to another one")
	b.fail(0)
	if b.step(api.Msg{Kind: api.Ask, From: 7, To: 2, Term: 9}) != api.OK || b.one().To != 7 || b.node.Core().Vote() != 7 {
		t.Error("from one that doesn't belong to it")
	}
}

// spoil writes over a list, its spare room too.
func spoil[T any](xs []T, x T) {
	xs = xs[:cap(xs)]
	for i := range xs {
		xs[i] = x
	}
}

// roomy is the same list, of its own, with room behind that has something.
func roomy[T any](xs []T, x T) []T {
	out := append(make([]T, 0, len(xs)+3), xs...)
	spoil(out[len(out):], x)
	return out
}

// P20.1: bytes that are handed in are neither changed nor kept.
func TestArguments(t *testing.T) {
	for i := range starts(t) {
		b := starts(t)[i]()
		given := func(raw []byte, call func(raw []byte)) {
			t.Helper()
			x := roomy(raw, 50)
			call(x)
			if !bytes.Equal(x, raw) || string(x[:cap(x)][len(x):]) != "222" {
				t.Fatalf("of %v is left %v", raw, x[:cap(x)])
			}
			spoil(x, 77)
			b.told("what was given is written over")
		}
		for k := range 4 {
			given(asked(1, int64(k+1), 0, 1), func(raw []byte) { b.submit(raw) })
		}
		for _, raw := range letterBytes(t, b) {
			given(raw, func(raw []byte) { b.bytes(raw) })
			given(raw[1:], func(raw []byte) { b.bytes(raw) })
		}
		given([]byte("noise"), func(raw []byte) { b.submit(raw) })
		b.letters()
		b.applied()
		b.tick(3)
		b.letters()
		b.crash(nil)
	}
}

// P20.1: the configuration that is handed to Open is neither changed nor kept.
func TestBootIsNotKept(t *testing.T) {
	boot := api.Conf{Voters: roomy([]int{1, 2}, 50), Learners: roomy([]int{3}, 51)}
	x := start{1, boot, node.Conf{Cert: room}}
	b := newBoth(t, x)
	if !sameConf(boot, api.Conf{Voters: []int{1, 2}, Learners: []int{3}}) || boot.Voters[:5][4] != 50 || boot.Learners[:4][3] != 51 {
		t.Errorf("left is %v", boot)
	}
	spoil(boot.Voters, 77)
	spoil(boot.Learners, 77)
	if c, _ := b.node.Core().Log().Conf(); !sameConf(c, api.Conf{Voters: []int{1, 2}, Learners: []int{3}}) {
		t.Errorf("kept is %v", c)
	}
	b.elect(2)
}

// P20.1: letters and what was applied are new memory: writing over them changes nothing, nor another letter.
func TestAnswers(t *testing.T) {
	b := of(t, 1, 1, 2, 3)
	b.elect(2)
	for i := range int64(4) {
		b.submit(asked(1, i+1, 0, float64(i)))
	}
	b.got(2, 4)
	want := b.said.letters
	got := b.node.Letters()
	b.said.letters, b.kept.seen = nil, 0
	if len(got) < 8 || !slices.EqualFunc(got, want, sameLetter) {
		t.Fatalf("the letters are %v", got)
	}
	for i := range got {
		spoil(got[i].B, 77)
		for k := i + 1; k < len(got); k++ {
			if !sameLetter(got[k], want[k]) {
				t.Fatalf("%d and %d share", i, k)
			}
		}
	}
	spoil(got, node.Letter{From: 77, B: []byte("spoilt")})
	as := b.node.Applied()
	b.said.applied = nil
	spoil(as, node.Applied{Index: 77})
	b.told("what was told is written over")
	b.submit(asked(1, 9, 0, 9))
	b.got(3, 6)
	if got[0].From != 77 || as[0].Index != 77 || len(b.letters()) == 0 || len(b.applied()) == 0 {
		t.Error("what was taken has changed")
	}
	b.crash(nil)
}
