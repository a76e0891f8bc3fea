// Package sum is layer 1: whole numbers that are reckoned without being too large, and how far clocks part.
package sum

import (
	"math"

	"scupper/api"
)

// million is what rho is a part of.
const million = 1000000

// Add answers a + b, or ErrOver.
func Add(a, b int64) (int64, api.Errno) {
	if b > 0 && a > math.MaxInt64-b || b < 0 && a < math.MinInt64-b {
		return 0, api.ErrOver
	}
	return a + b, api.OK
}

// Sub answers a - b, or ErrOver. It does not add -b: the least number has no opposite.
func Sub(a, b int64) (int64, api.Errno) {
	if b < 0 && a > math.MaxInt64+b || b > 0 && a < math.MinInt64+b {
		return 0, api.ErrOver
	}
	return a - b, api.OK
}

// Mul answers a times b, or ErrOver.
func Mul(a, b int64) (int64, api.Errno) {
	switch b {
	case 0:
		return 0, api.OK
	case -1: // the least number divided by -1 is itself, so the check by division would miss it
		return Sub(0, a)
	}
	product := a * b
	if product/b != a {
		return 0, api.ErrOver
	}
	return product, api.OK
}

// Total answers the sum of all, or ErrOver. It goes from the left, as a sum on the way may be too large where the whole is not.
func Total(list ...int64) (int64, api.Errno) {
	total := int64(0)
	for _, n := range list {
		next, e := Add(total, n)
		if e != api.OK {
			return 0, e
		}
		total = next
	}
	return total, api.OK
}

// Most answers how far a clock goes on at most while the true time goes on by t.
func Most(t, rho int64) (int64, api.Errno) {
	if e := check(t, rho); e != api.OK {
		return 0, e
	}
	return t * (million + rho) / million, api.OK
}

// Least answers how far a clock goes on at least while the true time goes on by t.
func Least(t, rho int64) (int64, api.Errno) {
	if e := check(t, rho); e != api.OK {
		return 0, e
	}
	return (t*million + million + rho - 1) / (million + rho), api.OK
}

// Shrink answers how far the true time has gone on for sure when a clock has gone on by t.
func Shrink(t, rho int64) (int64, api.Errno) {
	if e := check(t, rho); e != api.OK {
		return 0, e
	}
	return t * million / (million + rho), api.OK
}

// Guard answers how long one may trust, by one's own clock, what is taken back behind t by another's: both clocks may be wrong, each its own way.
func Guard(t, rho int64) (int64, api.Errno) {
	once, e := Shrink(t, rho)
	if e != api.OK {
		return 0, e
	}
	return Shrink(once, rho)
}

// check refuses what may not be; what it lets through is small enough that no product of the calls above is too large.
func check(t, rho int64) api.Errno {
	if t < 0 || t > api.MaxTerm || rho < 0 || rho > api.MaxRho {
		return api.ErrArg
	}
	return api.OK
}
