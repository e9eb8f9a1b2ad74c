package node_test

import (
	"math/rand/v2"
	"testing"

	"quillet/api"
	"quillet/conf"
	"quillet/node"
)

// scripts are calls among which the power goes.
func scripts() map[string]func(b *both) []func() {
	ask := func(term int64) api.Msg {
		return api.Msg{Kind: api.Ask, From: 1, To: 2, Term: term, Index: 9, LogTerm: 9}
	}
	say := func(kind int, term int64) api.Msg {
		return api.Msg{Kind: kind, From: 3, To: 2, Term: term, Ok: true}
	}
	got := func(from int, term, index int64) api.Msg {
		return api.Msg{Kind: api.Got, From: from, To: 2, Term: term, Index: index, Ok: true}
	}
	return map[string]func(b *both) []func(){
		"votes": func(b *both) []func() {
			return []func(){
				func() { b.step(ask(1)) },
				func() { b.step(ask(2)) },
				func() { b.step(api.Msg{Kind: api.Ask, From: 3, To: 2, Term: 2, Index: 9, LogTerm: 9}) },
				func() { b.tick(14) },
				func() { b.step(say(api.PreSay, 3)) },
				func() { b.step(ask(3)) },
				func() { b.step(ask(4)) },
			}
		},
		"follows": func(b *both) []func() {
			return []func(){
				func() { b.step(appended(1, 0, 0, 0, run(1, 2, 1)...)) },
				func() { b.step(appended(1, 2, 1, 1, run(3, 6, 1)...)) },
				func() { b.step(appended(3, 4, 1, 2, run(5, 5, 3)...)) },
				func() { b.step(appended(4, 2, 1, 3, all(run(3, 3, 1), run(4, 6, 4))...)) },
				func() { b.step(appended(4, 6, 4, 6, changed(7, 4, voters(1, 2)))) },
				func() { b.step(appended(4, 7, 4, 7)) },
			}
		},
		"takes snapshots": func(b *both) []func() {
			return []func(){
				func() { b.step(appended(1, 0, 0, 0, run(1, 8, 1)...)) },
				func() { b.step(appended(1, 8, 1, 1, run(9, 14, 1)...)) },
				func() { b.step(pieces(2, comes(9, 1, 3))...) },
				func() { b.step(appended(2, 14, 1, 9, run(15, 16, 2)...)) },
				func() { b.step(pieces(3, comes(15, 3, 8))...) },
				func() { b.step(appended(3, 15, 3, 16, run(16, 17, 3)...)) },
				func() { b.step(pieces(3, comes(30, 3, 11))...) },
				func() { b.step(appended(3, 30, 3, 32, run(31, 33, 3)...)) },
			}
		},
		"leads": func(b *both) []func() {
			return []func(){
				func() { b.tick(14) },
				func() { b.step(say(api.PreSay, 1)) },
				func() { b.step(say(api.Say, 1)) },
				func() { b.submit(asked(1, 1, 0, 1)) },
				func() { b.step(got(3, 1, 2)) },
				func() { b.submit(asked(1, 2, 1, 1, 2, 3)) },
				func() { b.step(got(3, 1, 3)) },
				func() { b.change(conf.Learn, 4) },
				func() { b.step(got(1, 1, 4)) },
				func() { b.tick(2) },
				func() { b.step(appended(2, 2, 1, 3, run(3, 5, 2)...)) },
				func() { b.step(appended(3, 4, 1, 4, run(5, 5, 3)...)) },
			}
		},
	}
}

// play does calls until the Node is down, and takes what it has to say; it tells whether all were done.
func (b *both) play(calls []func(), take int) bool {
	for i, call := range calls {
		call()
		if i%take == 0 || b.node.Down() {
			b.letters()
			b.applied()
		}
		if b.node.Down() {
			return false
		}
	}
	return true
}

// kinds of which loose sectors are kept: none, all, every one of few, some of many.
func choices(loose, at int) [][]bool {
	out := [][]bool{nil}
	if loose == 0 {
		return out
	}
	d := rand.New(rand.NewPCG(20, uint64(at)))
	many := 1 << min(loose, 4)
	for n := 1; n <= many; n++ {
		keep := make([]bool, loose)
		for i := range keep {
			if loose <= 4 {
				keep[i] = n>>i&1 == 1
			} else {
				keep[i] = n == many || d.IntN(2) == 0
			}
		}
		out = append(out, keep)
	}
	return out
}

// P20.1, P20.2: the power goes at every step of a script, with many choices of the sectors that are kept; and then at every step of Open; what is there then goes on.
func TestPowerGoesAtEveryStep(t *testing.T) {
	for what, script := range scripts() {
		for _, c := range []node.Conf{{Cert: room, Keep: 1}, {Cert: room, Keep: 3}, {Cert: room, Keep: 64}} {
			t.Run(what, func(t *testing.T) {
				t.Parallel()
				for n, done := 1, false; !done; n++ {
					b := newBoth(t, start{2, voters(1, 2, 3), c})
					b.fail(n)
					done = b.play(script(b), 1+n%3)
					b.letters()
					for _, keep := range choices(b.disk.Loose(), n) {
						powerGoes(t, start{2, voters(1, 2, 3), c}, n, keep, script)
					}
				}
			})
		}
	}
}

func powerGoes(t *testing.T, x start, n int, keep []bool, script func(b *both) []func()) {
	for again, ended := 1, false; !ended; again++ {
		b := newBoth(t, x)
		b.fail(n)
		b.play(script(b), 1+n%3)
		b.letters()
		was := b.node.Core()
		b.lose(keep)
		whole := newest(b.disk)
		b.fail(again)
		if ended = b.open() == api.OK; !ended {
			b.lose(b.odd())
			b.fail(0)
			b.mustOpen()
		}
		b.fail(0)
		b.safe(was, whole)
		b.play(script(b), 1)
		b.crash(nil)
	}
}
