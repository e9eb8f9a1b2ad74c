// Package flo is layer 1: see shared/doc/01-flo.md.
package flo

import (
	"cmp"
	"math"
	"slices"
	"strconv"
)

const top uint64 = 1 << 63

// Canon is a number's form.
func Canon(x float64) float64 {
	switch {
	case math.IsNaN(x):
		return math.NaN()
	case x == 0:
		return 0 // -0 equals 0, but has other bits
	}
	return x
}

// Cmp tells which of two numbers is ahead.
func Cmp(a, b float64) int {
	// The library's order is this layer's: NaN first and the same as any NaN, -0 and 0 the same.
	return cmp.Compare(a, b)
}

// Code is a number's code.
func Code(x float64) uint64 {
	if math.IsNaN(x) {
		return 0
	}
	u := math.Float64bits(Canon(x))
	if u&top == 0 {
		return u | top
	}
	return ^u
}

// From is the number of a code.
func From(u uint64) (float64, bool) {
	x := uncoded(u)
	// What would be -0's code, or that of a NaN's other bits, is no number's.
	if Code(x) != u {
		return 0, false
	}
	return x, true
}

func uncoded(u uint64) float64 {
	switch {
	case u == 0:
		return math.NaN()
	case u&top != 0:
		return math.Float64frombits(u &^ top)
	}
	return math.Float64frombits(^u)
}

// Next is the number that is next behind.
func Next(x float64) float64 {
	if math.IsNaN(x) {
		return math.Inf(-1)
	}
	// From below, the library steps onto -0.
	return Canon(math.Nextafter(x, math.Inf(1)))
}

// Prev is the number that is next ahead.
func Prev(x float64) float64 {
	// Nextafter would stay at -Inf, which isn't the first: NaN is.
	if math.IsNaN(x) || math.IsInf(x, -1) {
		return math.NaN()
	}
	return Canon(math.Nextafter(x, math.Inf(-1)))
}

// Least is the first number in the order.
func Least(xs ...float64) float64 {
	if len(xs) == 0 {
		return math.NaN()
	}
	return Canon(slices.MinFunc(xs, Cmp))
}

// Most is the last number in the order.
func Most(xs ...float64) float64 {
	if len(xs) == 0 {
		return math.NaN()
	}
	return Canon(slices.MaxFunc(xs, Cmp))
}

// Text is a number as text.
func Text(x float64) string {
	return strconv.FormatFloat(Canon(x), 'g', -1, 64)
}

// Parse is the number of a text.
func Parse(s string) (float64, bool) {
	x, err := strconv.ParseFloat(s, 64)
	// The library reads many texts as one number; only one of them is its Text.
	if err != nil || Text(x) != s {
		return 0, false
	}
	return Canon(x), true
}

// Sort is numbers' forms, in order, each once.
func Sort(xs []float64) []float64 {
	forms := make([]float64, 0, len(xs))
	for _, x := range xs {
		forms = append(forms, Canon(x))
	}
	slices.SortFunc(forms, Cmp)
	return slices.CompactFunc(forms, same)
}

func same(a, b float64) bool { return Cmp(a, b) == 0 }
