package net_test

import (
	"fmt"
	"slices"
	"testing"

	"quillet/api"
	"quillet/net"
)

// one is a letter as a value: who sends it to whom, its bytes as a text, and what was sent once, of which it is a beginning.
type one struct {
	from, to int
	text     string
	sent     string
}

// said is what is under way by the document's words.
type said struct {
	most int
	way  []one
}

func saidNew(most int) *said {
	if most < 0 {
		most = 0
	}
	if most > 1000 {
		most = 1000
	}
	return &said{most: most}
}

func (s *said) there(i int) bool { return 0 <= i && i < len(s.way) }

func (s *said) send(x one) api.Errno {
	if len(s.way) == s.most {
		return 3
	}
	s.way = append(s.way, x)
	return 0
}

func (s *said) take(i int) (one, bool) {
	if !s.there(i) {
		return one{}, false
	}
	x := s.way[i]
	var left []one
	for k, y := range s.way {
		if k != i {
			left = append(left, y)
		}
	}
	s.way = left
	return x, true
}

func (s *said) double(i int) bool {
	if !s.there(i) || len(s.way) == s.most {
		return false
	}
	s.way = append(s.way, s.way[i])
	return true
}

func (s *said) swap(i, k int) bool {
	if !s.there(i) || !s.there(k) {
		return false
	}
	x, y := s.way[i], s.way[k]
	s.way[i], s.way[k] = y, x
	return true
}

func (s *said) short(i int) bool {
	if !s.there(i) || s.way[i].text == "" {
		return false
	}
	text := s.way[i].text
	s.way[i].text = text[:len(text)-1]
	return true
}

// both is a Net, and what is said of it.
type both struct {
	t    *testing.T
	net  *net.Net
	said *said
	sent map[one]int
}

func newBoth(t *testing.T, most int) *both {
	t.Helper()
	b := &both{t: t, net: net.New(most), said: saidNew(most), sent: map[one]int{}}
	b.told("New")
	return b
}

func (b *both) send(from, to int, text string) api.Errno {
	b.t.Helper()
	got := b.net.Send(net.Letter{From: from, To: to, B: []byte(text)})
	x := one{from: from, to: to, text: text, sent: text}
	want := b.said.send(x)
	b.same("Send", got, want)
	b.sent[x]++
	return got
}

func (b *both) take(i int) (net.Letter, bool) {
	b.t.Helper()
	got, ok := b.net.Take(i)
	want, wantOk := b.said.take(i)
	if ok != wantOk || !same(got, want) {
		b.t.Fatalf("Take(%d) = %v, %v; not %v, %v", i, got, ok, want, wantOk)
	}
	if !ok && got.B != nil && len(got.B) != 0 {
		b.t.Fatalf("Take(%d) has bytes: %v", i, got)
	}
	b.told(fmt.Sprint("Take ", i))
	return got, ok
}

func (b *both) drop(i int) bool {
	b.t.Helper()
	_, want := b.said.take(i)
	return b.same(fmt.Sprint("Drop ", i), b.net.Drop(i), want)
}

func (b *both) double(i int) bool {
	b.t.Helper()
	return b.same(fmt.Sprint("Double ", i), b.net.Double(i), b.said.double(i))
}

func (b *both) swap(i, k int) bool {
	b.t.Helper()
	return b.same(fmt.Sprint("Swap ", i, k), b.net.Swap(i, k), b.said.swap(i, k))
}

func (b *both) short(i int) bool {
	b.t.Helper()
	return b.same(fmt.Sprint("Short ", i), b.net.Short(i), b.said.short(i))
}

// same asks that a call answers as is said; it tells whether that was true.
func (b *both) same(call string, got, want any) bool {
	b.t.Helper()
	if got != want {
		b.t.Fatalf("%s = %v, not %v", call, got, want)
	}
	b.told(call)
	return got == true
}

func same(l net.Letter, x one) bool {
	return l.From == x.from && l.To == x.to && string(l.B) == x.text
}

func (b *both) told(behind string) {
	b.t.Helper()
	if all := b.net.All(); b.net.Len() != len(b.said.way) || !slices.EqualFunc(all, b.said.way, same) {
		b.t.Fatalf("behind %s: %d are under way, %v; not %v", behind, b.net.Len(), all, b.said.way)
	}
}
