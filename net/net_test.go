package net_test

import (
	"math"
	"math/rand/v2"
	"slices"
	"strings"
	"testing"

	"quillet/api"
	"quillet/net"
)

func texts(n *net.Net) string {
	var out []string
	for _, l := range n.All() {
		out = append(out, string(l.B))
	}
	return strings.Join(out, ",")
}

// P19.1: the chapter's example, and what is told of each letter.
func TestExample(t *testing.T) {
	b := newBoth(t, 5)
	b.send(1, 2, "a")
	b.send(3, 4, "b")
	if !b.double(0) || !b.swap(0, 1) || texts(b.net) != "b,a,a" {
		t.Errorf("under way is %s", texts(b.net))
	}
	l, ok := b.take(0)
	if !ok || l.From != 3 || l.To != 4 || string(l.B) != "b" {
		t.Errorf("taken is %v, %v", l, ok)
	}
	if l, ok = b.take(1); !ok || l.From != 1 || l.To != 2 || string(l.B) != "a" || b.net.Len() != 1 {
		t.Errorf("taken is %v, %v", l, ok)
	}
}

// P19.1: how many may be under way.
func TestMost(t *testing.T) {
	for most, want := range map[int]int{math.MinInt: 0, -1: 0, 0: 0, 1: 1, 2: 2, 3: 3, 999: 999, 1000: 1000, 1001: 1000, 5000: 1000, math.MaxInt: 1000} {
		n := net.New(most)
		sent := 0
		for n.Send(net.Letter{B: []byte("x")}) == api.OK {
			sent++
		}
		if sent != want || n.Len() != want || n.Send(net.Letter{}) != api.ErrMany || n.Double(0) || len(n.All()) != want {
			t.Errorf("New(%d): %d are sent, %d under way", most, sent, n.Len())
		}
		if want == 0 {
			continue
		}
		if !n.Drop(want-1) || n.Double(0) != (want > 1) || want > 1 && n.Double(0) {
			t.Errorf("New(%d): no place behind a Drop, or too many", most)
		}
	}
}

// P19.1: what is sent when as many as may be are is lost, and nothing else.
func TestLost(t *testing.T) {
	b := newBoth(t, 2)
	b.send(1, 2, "a")
	b.send(2, 1, "b")
	if b.send(1, 3, "c") != api.ErrMany || b.double(1) || texts(b.net) != "a,b" {
		t.Errorf("under way is %s", texts(b.net))
	}
	b.take(0)
	if b.send(1, 3, "c") != api.OK || texts(b.net) != "b,c" {
		t.Errorf("under way is %s", texts(b.net))
	}
}

// P19.1: letters of any kind: whoever they are from or to, without bytes, with many.
func TestAnyLetter(t *testing.T) {
	b := newBoth(t, 9)
	long := strings.Repeat("long ", 20000)
	b.send(0, 0, "")
	b.send(-5, 1<<40, "\x00\xff")
	b.send(7, 7, long)
	b.send(math.MinInt, math.MaxInt, "x")
	if b.short(0) || !b.short(2) || !b.short(3) || b.short(3) || !b.double(2) || !b.double(0) {
		t.Error("Short and Double")
	}
	if l, ok := b.take(4); !ok || string(l.B) != long[:len(long)-1] {
		t.Errorf("of %d bytes are left %d", len(long), len(l.B))
	}
	if l, ok := b.take(0); !ok || len(l.B) != 0 {
		t.Errorf("%v, %v", l, ok)
	}
	if n := net.New(1); n.Send(net.Letter{From: 1}) != api.OK || n.Short(0) || !n.Swap(0, 0) || len(n.All()) != 1 {
		t.Error("a letter without a list")
	}
}

// P19.1: no such letter: each number that none has, for each call; nothing changes.
func TestNoLetter(t *testing.T) {
	for size := range 4 {
		b := newBoth(t, 3)
		for i := range size {
			b.send(i, i+1, strings.Repeat("ab", i+1))
		}
		was := texts(b.net)
		for _, i := range []int{math.MinInt, -1000, -2, -1, size, size + 1, 1000, math.MaxInt} {
			if l, ok := b.take(i); ok || l.From != 0 || l.To != 0 || len(l.B) != 0 {
				t.Errorf("Take(%d) of %d = %v, %v", i, size, l, ok)
			}
			if b.drop(i) || b.double(i) || b.short(i) || b.swap(i, i) {
				t.Errorf("%d is one of %d", i, size)
			}
			for k := range size {
				if b.swap(i, k) || b.swap(k, i) {
					t.Errorf("%d and %d change places", i, k)
				}
			}
		}
		if texts(b.net) != was {
			t.Errorf("%s was %s", texts(b.net), was)
		}
	}
}

// chosen are calls of which every order is tried.
func chosen() []func(b *both) {
	return []func(b *both){
		func(b *both) { b.send(1, 2, "ab") },
		func(b *both) { b.send(2, 3, "c") },
		func(b *both) { b.send(3, 1, "") },
		func(b *both) { b.take(0) },
		func(b *both) { b.take(1) },
		func(b *both) { b.drop(0) },
		func(b *both) { b.drop(2) },
		func(b *both) { b.double(0) },
		func(b *both) { b.double(1) },
		func(b *both) { b.swap(0, 1) },
		func(b *both) { b.swap(1, 2) },
		func(b *both) { b.swap(0, 0) },
		func(b *both) { b.short(0) },
		func(b *both) { b.short(1) },
		func(b *both) { b.short(-1) },
	}
}

// P19.1: every order of five of the chosen calls, each as often as may be, where few and where more may be under way.
func TestEveryOrder(t *testing.T) {
	for _, most := range []int{1, 3} {
		for k := range chosen() {
			t.Run("", func(t *testing.T) {
				t.Parallel()
				everyOrder(t, most, []int{k})
			})
		}
	}
}

func everyOrder(t *testing.T, most int, script []int) {
	calls := chosen()
	if len(script) == 5 {
		b := newBoth(t, most)
		for _, k := range script {
			calls[k](b)
		}
		return
	}
	for k := range calls {
		everyOrder(t, most, append(slices.Clone(script), k))
	}
}

// from asks that each letter that is under way was sent, or is a beginning of one that was.
func (b *both) from(l net.Letter) {
	b.t.Helper()
	for x := range b.sent {
		if l.From == x.from && l.To == x.to && strings.HasPrefix(x.text, string(l.B)) {
			return
		}
	}
	b.t.Fatalf("%v is under way, and wasn't sent", l)
}

// P19.1, P19.2: long runs of all calls; nothing is under way that wasn't sent, or is a beginning of what was.
func TestLongRuns(t *testing.T) {
	for seed := range 60 {
		d := rand.New(rand.NewPCG(19, uint64(seed)))
		b := newBoth(t, d.IntN(12))
		at := func() int { return d.IntN(b.net.Len()+3) - 1 }
		for i := range 400 {
			switch d.IntN(9) {
			case 0, 1, 2:
				b.send(d.IntN(3), d.IntN(3), strings.Repeat(string(rune('a'+i%26)), d.IntN(4))+"yz"[:d.IntN(3)])
			case 3:
				if l, ok := b.take(at()); ok {
					b.from(l)
				}
			case 4:
				b.drop(at())
			case 5:
				b.double(at())
			case 6:
				b.swap(at(), at())
			default:
				b.short(at())
			}
			for _, l := range b.net.All() {
				b.from(l)
			}
		}
	}
}

// spoil writes over bytes, their spare room too.
func spoil(b []byte) {
	b = b[:cap(b)]
	for i := range b {
		b[i] = '#'
	}
}

// P19.3: what is sent is neither changed nor kept, nor its spare room.
func TestArguments(t *testing.T) {
	b := newBoth(t, 3)
	for _, text := range []string{"abc", "", "d"} {
		room := append([]byte(text), "behind"...)
		sent := net.Letter{From: 1, To: 2, B: room[:len(text)]}
		b.net.Send(sent)
		b.said.send(one{from: 1, to: 2, text: text})
		if string(room) != text+"behind" || sent.From != 1 || sent.To != 2 {
			t.Errorf("of %s is left %s", text, room)
		}
		b.short(0)
		b.double(0)
		if string(room) != text+"behind" {
			t.Errorf("of %s is left %s", text, room)
		}
		spoil(room)
		b.told("what was sent is written over")
	}
	room := []byte("full")
	if b.net.Send(net.Letter{B: room}) != api.ErrMany || string(room) != "full" {
		t.Errorf("of full is left %s", room)
	}
}

// P19.3: what is told is new memory: of All each letter, of Take the one; doubles don't share.
func TestAnswers(t *testing.T) {
	b := newBoth(t, 9)
	b.send(1, 2, "abcdefghi")
	b.send(2, 1, "klm")
	b.double(0)
	b.double(0)
	b.short(0)
	b.short(2)
	b.short(2)
	all := b.net.All()
	want := slices.Clone(b.said.way)
	for i := range all {
		spoil(all[i].B)
		for k := i + 1; k < len(all); k++ {
			if !same(all[k], want[k]) {
				t.Fatalf("%d and %d share", i, k)
			}
		}
	}
	all = all[:cap(all)]
	for i := range all {
		all[i] = net.Letter{From: 77, B: []byte("#")}
	}
	b.told("all are written over")
	for b.net.Len() > 0 {
		l, _ := b.take(0)
		if strings.ContainsRune(string(l.B[:cap(l.B)]), 'i') != strings.HasSuffix(string(l.B), "i") {
			t.Errorf("behind %s the lost bytes are told: %s", l.B, l.B[:cap(l.B)])
		}
		spoil(l.B)
		b.told("what was taken is written over")
	}
	b.send(1, 2, "later")
	b.told("Send")
}

// P19.3: a letter that was taken stays as it is, whatever happens to its doubles.
func TestTakenStays(t *testing.T) {
	b := newBoth(t, 9)
	b.send(1, 2, "abc")
	b.double(0)
	l, _ := b.take(0)
	all := b.net.All()
	b.short(0)
	b.send(1, 2, "x")
	b.swap(0, 1)
	b.drop(0)
	if string(l.B) != "abc" || len(all) != 1 || string(all[0].B) != "abc" {
		t.Errorf("%s, %v", l.B, all)
	}
}

// P19.1: two nets have nothing in common.
func TestTwoNets(t *testing.T) {
	one, two := newBoth(t, 3), newBoth(t, 3)
	one.send(1, 2, "a")
	two.send(1, 2, "b")
	l, _ := one.net.Take(0)
	one.said.take(0)
	two.send(l.From, l.To, string(l.B))
	one.told("the other one's calls")
	two.told("the other one's calls")
}
