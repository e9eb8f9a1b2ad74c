package conf_test

import (
	"encoding/binary"
	"math"
	"slices"
	"testing"

	"quillet/api"
	"quillet/conf"
)

// of is a configuration: who votes, and who learns.
func of(voters []int, learners ...int) api.Conf {
	return api.Conf{Voters: voters, Learners: learners}
}

func same(a, b api.Conf) bool {
	return slices.Equal(a.Voters, b.Voters) && slices.Equal(a.Learners, b.Learners)
}

// copied shares nothing with what it is a copy of.
func copied(c api.Conf) api.Conf {
	return api.Conf{Voters: append([]int(nil), c.Voters...), Learners: append([]int(nil), c.Learners...)}
}

// saidRight is by the document's words, word by word.
func saidRight(c api.Conf) bool {
	for _, members := range [][]int{c.Voters, c.Learners} {
		for i, n := range members {
			if n < 1 || n > 7 || i > 0 && members[i-1] >= n {
				return false
			}
		}
	}
	for _, v := range c.Voters {
		for _, l := range c.Learners {
			if v == l {
				return false
			}
		}
	}
	return len(c.Voters) > 0
}

func among(list []int, n int) bool {
	for _, x := range list {
		if x == n {
			return true
		}
	}
	return false
}

func saidOthers(c api.Conf, n int) []int {
	seen := map[int]bool{}
	var out []int
	for _, x := range append(append([]int(nil), c.Voters...), c.Learners...) {
		if x != n && !seen[x] {
			seen[x] = true
			out = append(out, x)
		}
	}
	slices.Sort(out)
	return out
}

func saidQuorum(c api.Conf, who []int) bool {
	yes := 0
	for _, v := range c.Voters {
		if among(who, v) {
			yes++
		}
	}
	return 2*yes > len(c.Voters)
}

// saidMiddle looks at each voter's number, how many have reached it.
func saidMiddle(c api.Conf, at func(n int) int64) int64 {
	best, found := int64(0), false
	for _, v := range c.Voters {
		reached := 0
		for _, w := range c.Voters {
			if at(w) >= at(v) {
				reached++
			}
		}
		if 2*reached > len(c.Voters) && (!found || at(v) > best) {
			best, found = at(v), true
		}
	}
	return best
}

// saidNext goes by who does what: 0 doesn't belong to it, 1 learns, 2 votes.
func saidNext(c api.Conf, kind, n int) (api.Conf, api.Errno) {
	if !saidRight(c) || kind != 1 && kind != 2 && kind != 3 || n < 1 || n > 7 {
		return api.Conf{}, 1
	}
	does, voters := rolesOf(c), len(c.Voters)
	switch {
	case kind == 1 && does[n] != 0:
		return api.Conf{}, 5
	case kind == 2 && does[n] != 1, kind == 3 && does[n] == 0:
		return api.Conf{}, 4
	case kind == 3 && does[n] == 2 && voters == 1:
		return api.Conf{}, 3
	}
	does[n] = kind % 3
	return does.conf(), api.OK
}

// roles say of each member's number what that one does.
type roles [8]int

func rolesOf(c api.Conf) (does roles) {
	for _, n := range c.Learners {
		does[n] = 1
	}
	for _, n := range c.Voters {
		does[n] = 2
	}
	return does
}

func (r roles) conf() (c api.Conf) {
	for n, does := range r {
		switch does {
		case 1:
			c.Learners = append(c.Learners, n)
		case 2:
			c.Voters = append(c.Voters, n)
		}
	}
	return c
}

// everyRight is every right configuration: what each of seven does, but that nobody votes.
func everyRight() []api.Conf {
	var out []api.Conf
	for code := range 2187 {
		var r roles
		for n := 1; n <= 7; n++ {
			r[n], code = code%3, code/3
		}
		if c := r.conf(); len(c.Voters) > 0 {
			out = append(out, c)
		}
	}
	return out
}

func nums(ns ...int64) []byte {
	var b []byte
	for _, n := range ns {
		b = binary.AppendVarint(b, n)
	}
	return b
}

// form is bytes as the document has them, of any configuration.
func form(c api.Conf) []byte {
	b := nums(int64(len(c.Voters)))
	for _, n := range c.Voters {
		b = append(b, nums(int64(n))...)
	}
	b = append(b, nums(int64(len(c.Learners)))...)
	for _, n := range c.Learners {
		b = append(b, nums(int64(n))...)
	}
	return b
}

// byForm finds the one right configuration of bytes, of all that there are.
func byForm() map[string]api.Conf {
	out := map[string]api.Conf{}
	for _, c := range everyRight() {
		out[string(form(c))] = c
	}
	return out
}

// edges are numbers of members and others.
func edges() []int {
	return []int{math.MinInt, math.MinInt + 1, -1 << 32, -8, -1, 0, 1, 2, 3, 4, 5, 6, 7, 8, 9, 256, 1 << 32, 1<<32 + 1, math.MaxInt - 1, math.MaxInt}
}

// asks holds all that is asked of a configuration against the document's words.
func asks(t *testing.T, c api.Conf) {
	t.Helper()
	right := saidRight(c)
	if conf.Right(c) != right {
		t.Fatalf("Right(%v) = %v", c, !right)
	}
	b, code := conf.Bytes(c)
	if right && (code != api.OK || string(b) != string(form(c))) || !right && (code != api.ErrArg || len(b) > 0) {
		t.Fatalf("Bytes(%v) = %v, %d", c, b, code)
	}
	for _, n := range edges() {
		if got := conf.Voter(c, n); got != among(c.Voters, n) {
			t.Fatalf("Voter(%v, %d) = %v", c, n, got)
		}
		if got := conf.Member(c, n); got != (among(c.Voters, n) || among(c.Learners, n)) {
			t.Fatalf("Member(%v, %d) = %v", c, n, got)
		}
		if got := conf.Others(c, n); !slices.Equal(got, saidOthers(c, n)) {
			t.Fatalf("Others(%v, %d) = %v", c, n, got)
		}
		changes(t, c, n)
	}
}

func changes(t *testing.T, c api.Conf, n int) {
	t.Helper()
	for _, kind := range []int{math.MinInt, -1, 0, 1, 2, 3, 4, 5, 1<<32 + 1, math.MaxInt} {
		got, code := conf.Next(c, kind, n)
		if want, e := saidNext(c, kind, n); code != e || !same(got, want) {
			t.Fatalf("Next(%v, %d, %d) = %v, %d; not %v, %d", c, kind, n, got, code, want, e)
		}
	}
}

// loads holds Load against the document's words.
func loads(t *testing.T, all map[string]api.Conf, b []byte) bool {
	t.Helper()
	want, ok := all[string(b)]
	c, code := conf.Load(b)
	if ok && code != api.OK || !ok && code != api.ErrForm || !same(c, want) {
		t.Fatalf("Load(%v) = %v, %d", b, c, code)
	}
	return ok
}
