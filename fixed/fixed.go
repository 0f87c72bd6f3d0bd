// Package fixed is layer 1: numbers of pixels, in units, that never wrap.
package fixed

import (
	"math/bits"

	"scrim/api"
)

// mostPart is small enough that MostFixed times it is still an int64.
const mostPart = 1 << 20

// Clamp tells what a number counts as.
func Clamp(n int64) (int64, bool) {
	if n > api.MostFixed {
		return api.MostFixed, false
	}
	if n < -api.MostFixed {
		return -api.MostFixed, false
	}
	return n, true
}

// Add tells a sum.
func Add(a, b int64) (int64, bool) {
	return counted(a, b, func(a, b int64) int64 { return a + b })
}

// Sub tells a difference.
func Sub(a, b int64) (int64, bool) {
	return counted(a, b, func(a, b int64) int64 { return a - b })
}

// Mul tells a product.
func Mul(a, b int64) (int64, bool) {
	return counted(a, b, func(a, b int64) int64 {
		n := productByUnit(size(a), size(b))
		if (a < 0) != (b < 0) {
			return -n
		}
		return n
	})
}

// Part tells a part.
func Part(a, num, den int64) (int64, bool) {
	if num < 0 || num > mostPart || den < 1 || den > mostPart {
		return 0, false
	}
	return counted(a, num, func(a, num int64) int64 { return a * num / den })
}

// Sum tells the sum of all.
func Sum(l []int64) (int64, bool) {
	sum, exact := int64(0), true
	for _, n := range l {
		next, is := Add(sum, n)
		sum, exact = next, exact && is
	}
	return sum, exact
}

// Px tells pixels, in units.
func Px(pixels int64) (int64, bool) {
	return counted(pixels, api.Unit, func(pixels, unit int64) int64 { return pixels * unit })
}

// counted hands do only numbers that may be, so that what do tells can't wrap, and tells what that counts as; it is exact if nothing was clamped on the way.
func counted(a, b int64, do func(a, b int64) int64) (int64, bool) {
	x, isX := Clamp(a)
	y, isY := Clamp(b)
	n, isN := Clamp(do(x, y))
	return n, isX && isY && isN
}

// size drops the sign, since a product is rounded towards 0 on either side of it.
func size(n int64) uint64 {
	if n < 0 {
		return uint64(-n)
	}
	return uint64(n)
}

// productByUnit needs 128 bits; a product that has more than 64 is too great even when divided, so any number beyond MostFixed stands for it.
func productByUnit(a, b uint64) int64 {
	high, low := bits.Mul64(a, b)
	if high != 0 {
		return api.MostFixed + 1
	}
	return int64(low / api.Unit)
}
