// Package deci implements decimal numbers of few digits: N divided by ten to
// the power of Scale.
package deci

import (
	"strconv"
	"strings"

	"soffit/api"
)

// maxWhole is the most digits that may stand before a decimal point.
const maxWhole = 12

// Make returns n divided by ten to the power of scale, in its sound form.
func Make(n, scale int) (api.Dec, api.Errno) {
	if scale < 0 || scale > api.MaxScale || !small(n) {
		return api.Dec{}, api.ErrRange
	}
	return wideOf(n, scale).dec()
}

// Sound reports whether d is a number in its only sound form.
func Sound(d api.Dec) bool {
	if d.Scale < 0 || d.Scale > api.MaxScale || !small(d.N) {
		return false
	}
	return d.Scale == 0 || d.N%10 != 0
}

// Compare returns -1, 0 or 1 if a is less than, equal to or greater than b.
func Compare(a, b api.Dec) (int, api.Errno) {
	if !allSound(a, b) {
		return 0, api.ErrForm
	}
	x, y := units(a), units(b)
	if x < y {
		return -1, api.OK
	}
	if x > y {
		return 1, api.OK
	}
	return 0, api.OK
}

// Add returns the sum of a and b.
func Add(a, b api.Dec) (api.Dec, api.Errno) {
	if !allSound(a, b) {
		return api.Dec{}, api.ErrForm
	}
	return wideOf(units(a)+units(b), api.MaxScale).dec()
}

// Neg returns 0 minus d.
func Neg(d api.Dec) (api.Dec, api.Errno) {
	if !allSound(d) {
		return api.Dec{}, api.ErrForm
	}
	return api.Dec{N: -d.N, Scale: d.Scale}, api.OK
}

// Mul returns the product of a and b, rounded.
func Mul(a, b api.Dec) (api.Dec, api.Errno) {
	if !allSound(a, b) {
		return api.Dec{}, api.ErrForm
	}
	return wideOf(a.N, a.Scale).times(b.N, b.Scale).rounded().dec()
}

// Div returns the quotient of a and b, rounded.
func Div(a, b api.Dec) (api.Dec, api.Errno) {
	if !allSound(a, b) {
		return api.Dec{}, api.ErrForm
	}
	if b.N == 0 {
		return api.Dec{}, api.ErrZero
	}
	// Raised by both scales and by MaxScale more, the whole quotient is in
	// units of MaxScale, to which it is to be rounded.
	up := wideOf(a.N, api.MaxScale).times(power(b.Scale+api.MaxScale), 0)
	return up.over(b.N * power(a.Scale)).nearest().dec()
}

// Text returns the shortest text of d.
func Text(d api.Dec) (string, api.Errno) {
	if !allSound(d) {
		return "", api.ErrForm
	}
	sign, n := "", d.N
	if n < 0 {
		sign, n = "-", -n
	}
	whole := strconv.Itoa(n / power(d.Scale))
	if d.Scale == 0 {
		return sign + whole, api.OK
	}
	part := strconv.Itoa(n % power(d.Scale))
	zeros := strings.Repeat("0", d.Scale-len(part))
	return sign + whole + "." + zeros + part, api.OK
}

// Parse returns the number that s is.
func Parse(s string) (api.Dec, api.Errno) {
	body, minus := strings.CutPrefix(s, "-")
	whole, part, point := strings.Cut(body, ".")
	if !digits(whole) || len(whole) > 1 && whole[0] == '0' || point && !digits(part) {
		return api.Dec{}, api.ErrText
	}
	part = strings.TrimRight(part, "0")
	if len(whole) > maxWhole || len(part) > api.MaxScale {
		return api.Dec{}, api.ErrRange
	}
	n, err := strconv.Atoi(whole + part)
	if err != nil {
		return api.Dec{}, api.ErrRange
	}
	if minus {
		n = -n
	}
	return wideOf(n, len(part)).dec()
}

// At returns the greatest integer n such that n units of scale are not above
// d, and whether they are d.
func At(d api.Dec, scale int) (n int, exact bool, e api.Errno) {
	if scale < 0 || scale > api.MaxScale {
		return 0, false, api.ErrArg
	}
	if !allSound(d) {
		return 0, false, api.ErrForm
	}
	if d.Scale <= scale {
		return d.N * power(scale-d.Scale), true, api.OK
	}
	unit := power(d.Scale - scale)
	n = d.N / unit
	rest := d.N % unit
	if rest < 0 {
		n-- // the division of integers cuts towards 0, not down
	}
	return n, rest == 0, api.OK
}

// small reports whether n may be the N of a sound number.
func small(n int) bool { return n >= -api.MaxCoef && n <= api.MaxCoef }

// allSound reports whether all numbers are sound.
func allSound(list ...api.Dec) bool {
	for _, d := range list {
		if !Sound(d) {
			return false
		}
	}
	return true
}

// units returns a sound number in units of the smallest scale.
func units(d api.Dec) int { return d.N * power(api.MaxScale-d.Scale) }

// power returns ten to the power of k.
func power(k int) int {
	p := 1
	for range k {
		p *= 10
	}
	return p
}

// digits reports whether s is one or more digits.
func digits(s string) bool {
	for i := range len(s) {
		if s[i] < '0' || s[i] > '9' {
			return false
		}
	}
	return s != ""
}
