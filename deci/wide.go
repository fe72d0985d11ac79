package deci

import (
	"math/bits"

	"soffit/api"
)

// wide is a number during a computation: hi and lo together are its 128 bits,
// rest and of are the fraction that a division left.
type wide struct {
	neg      bool
	hi, lo   uint64
	rest, of uint64
	scale    int
}

// wideOf returns n divided by ten to the power of scale.
func wideOf(n, scale int) wide {
	return wide{neg: n < 0, lo: size(n), of: 1, scale: scale}
}

// size returns n without its sign.
func size(n int) uint64 {
	if n < 0 {
		return -uint64(n)
	}
	return uint64(n)
}

// times returns w times n divided by ten to the power of scale; the high bits
// of w must be 0.
func (w wide) times(n, scale int) wide {
	w.hi, w.lo = bits.Mul64(w.lo, size(n))
	w.neg = w.neg != (n < 0)
	w.scale += scale
	return w
}

// over returns w divided by n, which is not 0; w must have no fraction yet.
func (w wide) over(n int) wide {
	w.neg = w.neg != (n < 0)
	return w.divided(size(n))
}

// divided returns w with its bits divided by d, and the fraction that is left.
func (w wide) divided(d uint64) wide {
	high, left := w.hi/d, w.hi%d
	w.hi = high
	w.lo, w.rest = bits.Div64(left, w.lo, d)
	w.of = d
	return w
}

// rounded returns w with at most MaxScale digits after the point.
func (w wide) rounded() wide {
	if w.scale <= api.MaxScale {
		return w
	}
	w = w.divided(uint64(power(w.scale - api.MaxScale)))
	w.scale = api.MaxScale
	return w.nearest()
}

// nearest returns w without its fraction, half to the even neighbour.
func (w wide) nearest() wide {
	twice := 2 * w.rest
	up := twice > w.of || twice == w.of && w.lo%2 == 1
	w.rest, w.of = 0, 1
	if !up {
		return w
	}
	low, carry := bits.Add64(w.lo, 1, 0)
	w.lo, w.hi = low, w.hi+carry
	return w
}

// trimmed returns w without zeros at the end of what is after the point.
func (w wide) trimmed() wide {
	for w.scale > 0 {
		next := w.divided(10)
		if next.rest != 0 {
			break
		}
		w = next
		w.of = 1
		w.scale--
	}
	return w
}

// dec returns w, which has no fraction, as a sound number.
func (w wide) dec() (api.Dec, api.Errno) {
	w = w.trimmed()
	if w.hi != 0 || w.lo > api.MaxCoef {
		return api.Dec{}, api.ErrRange
	}
	n := int(w.lo)
	if w.neg {
		n = -n
	}
	return api.Dec{N: n, Scale: w.scale}, api.OK
}
