package conf_test

import (
	"slices"
	"testing"

	"quillet/api"
	"quillet/conf"
)

// spoil writes over a list, its spare room too.
func spoil[T any](xs []T, x T) {
	xs = xs[:cap(xs)]
	for i := range xs {
		xs[i] = x
	}
}

func spoilConf(c api.Conf) {
	spoil(c.Voters, 77)
	spoil(c.Learners, 78)
}

// roomy is a configuration whose lists lie in one list, with room behind each.
func roomy(c api.Conf) (api.Conf, []int) {
	back := slices.Concat(c.Voters, []int{50, 51, 52}, c.Learners, []int{53, 54, 55})
	k := len(c.Voters)
	return api.Conf{Voters: back[:k], Learners: back[k+3 : k+3+len(c.Learners)]}, back
}

// P15.3: no call changes what it is handed, nor what is behind it.
func TestArgumentsStay(t *testing.T) {
	lists := []api.Conf{of([]int{1, 2, 3}, 5), of([]int{7}), of([]int{4}, 1, 2, 7), of([]int{3, 1, 3, 2}, 9, 3, 1), {}}
	for _, c := range lists {
		given, back := roomy(c)
		who := append([]int{7, 3, 1, 3, 2, 5}, 60, 61)
		kept, keptWho := slices.Clone(back), slices.Clone(who)
		conf.Right(given)
		conf.Bytes(given)
		conf.Quorum(given, who[:6])
		conf.Middle(given, func(n int) int64 { return int64(-n) })
		for n := range 9 {
			conf.Voter(given, n)
			conf.Member(given, n)
			conf.Others(given, n)
			for kind := range 5 {
				conf.Next(given, kind, n)
			}
		}
		if !slices.Equal(back, kept) || !slices.Equal(who, keptWho) {
			t.Errorf("of %v is left %v, and of whom %v", kept, back, who)
		}
	}
}

// P15.3: answers may be written over: neither what was handed in nor another answer changes; nor do answers, if what was handed in does.
func TestAnswersAreNew(t *testing.T) {
	for _, c := range []api.Conf{of([]int{1, 2, 3}, 5), of([]int{4}, 1, 2, 7), of([]int{1, 2, 3, 4, 5, 6, 7}), of([]int{1, 3}, 2)} {
		for n := range 8 {
			for kind := range 4 {
				given := copied(c)
				first, code := conf.Next(given, kind, n)
				second, _ := conf.Next(given, kind, n)
				others, more := conf.Others(given, n), conf.Others(given, n)
				b, again := must(t, given), must(t, given)
				spoilConf(first)
				spoil(others, 79)
				spoil(b, 80)
				if !same(given, c) {
					t.Fatalf("of %v is left %v", c, given)
				}
				spoilConf(given)
				want, e := saidNext(c, kind, n)
				if code != e || !same(second, want) || !slices.Equal(more, saidOthers(c, n)) || !slices.Equal(again, form(c)) {
					t.Fatalf("%v, %d, %d: answers share", c, kind, n)
				}
			}
		}
	}
}

func must(t *testing.T, c api.Conf) []byte {
	t.Helper()
	b, code := conf.Bytes(c)
	if code != api.OK {
		t.Fatalf("Bytes(%v) = %d", c, code)
	}
	return b
}

// P15.3: the two lists of one answer share nothing.
func TestListsOfOneAnswer(t *testing.T) {
	for _, c := range everyRight() {
		loaded, _ := conf.Load(form(c))
		answers := []api.Conf{loaded}
		wanted := []api.Conf{c}
		for n := range 8 {
			for kind := range 4 {
				if next, code := conf.Next(c, kind, n); code == api.OK {
					want, _ := saidNext(c, kind, n)
					answers, wanted = append(answers, next), append(wanted, want)
				}
			}
		}
		for i, x := range answers {
			spoil(x.Voters, 77)
			if !slices.Equal(x.Learners, wanted[i].Learners) {
				t.Fatalf("%v: the lists share", wanted[i])
			}
		}
	}
}

// P15.3: bytes that are loaded are neither changed nor kept.
func TestLoadedBytesAreNotKept(t *testing.T) {
	for _, c := range everyRight() {
		back := append(form(c), 55, 56)
		b := back[:len(back)-2]
		first, code := conf.Load(b)
		second, _ := conf.Load(b)
		if code != api.OK || !slices.Equal(back, append(form(c), 55, 56)) {
			t.Fatalf("Load = %d, and leaves %v", code, back)
		}
		spoil(back, 77)
		spoilConf(first)
		if !same(second, c) {
			t.Fatalf("%v is %v", c, second)
		}
	}
}
