// Package rat is layer 1: moments that are fractions. See shared/doc/01-rat.md.
package rat

import (
	"cmp"

	"selvage/api"
)

// Right: is it a moment?
func Right(a api.Rat) bool {
	return within(a.Den, 1, api.MaxDen) && within(a.Num, -api.MaxNum, api.MaxNum)
}

// Cmp holds two moments against each other.
func Cmp(a, b api.Rat) int {
	if !Right(a) || !Right(b) {
		return 0
	}
	// Of right moments no product goes beyond 2^30, so none wraps round.
	return cmp.Compare(a.Num*b.Den, b.Num*a.Den)
}

// Least: the same moment with the least Den.
func Least(a api.Rat) api.Rat {
	if !Right(a) {
		return a
	}
	g := divisor(max(a.Num, -a.Num), a.Den)
	return api.Rat{Num: a.Num / g, Den: a.Den / g}
}

// Between two moments.
func Between(a, b api.Rat) (api.Rat, bool) {
	// Cmp is 0 where one of them isn't right, so this refuses these too.
	if Cmp(a, b) >= 0 {
		return api.Rat{}, false
	}
	a, b = Least(a), Least(b)
	return ifRight(api.Rat{Num: a.Num + b.Num, Den: a.Den + b.Den})
}

// After a moment.
func After(a api.Rat) (api.Rat, bool) {
	if !Right(a) {
		return api.Rat{}, false
	}
	whole := a.Num / a.Den
	// Division rounds towards 0: below 0, a rest has led to the next whole number already.
	if a.Num%a.Den >= 0 {
		whole++
	}
	return ifRight(api.Rat{Num: whole, Den: 1})
}

// Max: the later one.
func Max(a, b api.Rat) api.Rat {
	if Cmp(a, b) < 0 {
		return b
	}
	return a
}

func within(n, least, most int) bool { return least <= n && n <= most }

// divisor is the greatest that divides both; n is not below 0, and d is above 0.
func divisor(n, d int) int {
	for n != 0 {
		n, d = d%n, n
	}
	return d
}

func ifRight(a api.Rat) (api.Rat, bool) {
	if !Right(a) {
		return api.Rat{}, false
	}
	return a, true
}
