// Package span is layer 2: see shared/doc/02-span.md.
package span

import (
	"cmp"
	"math"
	"slices"

	"quillet/api"
	"quillet/flo"
)

// none is the empty span.
func none() api.Span { return api.Span{LoOpen: true, HiOpen: true} }

// Right tells whether a span isn't wrong.
func Right(s api.Span) bool {
	return !math.IsNaN(s.Lo) && !math.IsNaN(s.Hi)
}

// Canon is a span's form.
func Canon(s api.Span) api.Span {
	// Nothing lies behind +Inf, though Next would answer +Inf itself again.
	if !Right(s) || s.LoOpen && math.IsInf(s.Lo, 1) {
		return none()
	}
	return closed(first(s), last(s))
}

// closed is the form of the keys from lo to hi, both of them forms of numbers.
func closed(lo, hi float64) api.Span {
	if flo.Cmp(lo, hi) > 0 {
		return none()
	}
	return api.Span{Lo: lo, Hi: hi}
}

func first(s api.Span) float64 {
	if s.LoOpen {
		return flo.Next(s.Lo)
	}
	return flo.Canon(s.Lo)
}

// last may be NaN, ahead of -Inf: then it is ahead of every key.
func last(s api.Span) float64 {
	if s.HiOpen {
		return flo.Prev(s.Hi)
	}
	return flo.Canon(s.Hi)
}

// Empty tells whether a span has no key.
func Empty(s api.Span) bool { return Canon(s) == none() }

// Has tells whether a span has a key.
func Has(s api.Span, key float64) bool {
	// NaN needs no case of its own: it is ahead of every Lo.
	f := Canon(s)
	return f != none() && flo.Cmp(f.Lo, key) <= 0 && flo.Cmp(key, f.Hi) <= 0
}

// Meet is the keys of both.
func Meet(a, b api.Span) api.Span {
	f, g := Canon(a), Canon(b)
	if f == none() || g == none() {
		return none()
	}
	return closed(flo.Most(f.Lo, g.Lo), flo.Least(f.Hi, g.Hi))
}

// Apart tells whether no key is of both.
func Apart(a, b api.Span) bool { return Meet(a, b) == none() }

// Within tells whether all of a span's keys are another one's.
func Within(a, b api.Span) bool { return Meet(a, b) == Canon(a) }

// Join is the keys of either.
func Join(a, b api.Span) (api.Span, bool) {
	f, g := Canon(a), Canon(b)
	switch {
	case f == none():
		return g, true
	case g == none():
		return f, true
	case gap(f, g) || gap(g, f):
		return none(), false
	}
	return api.Span{Lo: flo.Least(f.Lo, g.Lo), Hi: flo.Most(f.Hi, g.Hi)}, true
}

// gap tells whether a key lies behind all of f's and ahead of all of g's; both are forms with keys.
func gap(f, g api.Span) bool { return flo.Cmp(flo.Next(f.Hi), g.Lo) < 0 }

// Norm is spans' keys as few spans.
func Norm(ss []api.Span) []api.Span {
	var out []api.Span
	for _, f := range rising(ss) {
		// By their order, what doesn't reach the last one reaches none ahead of it.
		if n := len(out); n > 0 && !gap(out[n-1], f) {
			out[n-1].Hi = flo.Most(out[n-1].Hi, f.Hi)
		} else {
			out = append(out, f)
		}
	}
	return out
}

// rising is the forms of the spans that have keys, in order.
func rising(ss []api.Span) []api.Span {
	var forms []api.Span
	for _, s := range ss {
		if f := Canon(s); f != none() {
			forms = append(forms, f)
		}
	}
	slices.SortFunc(forms, Cmp)
	return forms
}

// Covers tells whether some span has a key.
func Covers(ss []api.Span, key float64) bool {
	for _, s := range ss {
		if Has(s, key) {
			return true
		}
	}
	return false
}

// One is the span of one key.
func One(key float64) api.Span {
	return Canon(api.Span{Lo: key, Hi: key})
}

// Cmp is the order of spans.
func Cmp(a, b api.Span) int {
	f, g := Canon(a), Canon(b)
	switch {
	case f == g:
		return 0
	case f == none():
		return -1
	case g == none():
		return 1
	}
	return cmp.Or(flo.Cmp(f.Lo, g.Lo), flo.Cmp(f.Hi, g.Hi))
}
