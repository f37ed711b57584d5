package fraction

import "math/bits"

// wide is an integer of 128 bits in two's complement: hi has the upper half, with the sign, and lo the lower one.
type wide struct{ hi, lo uint64 }

func product(x, y int64) wide {
	hi, lo := bits.Mul64(size(x), size(y))
	w := wide{hi, lo}
	if (x < 0) != (y < 0) {
		return w.negated()
	}
	return w
}

func (w wide) negative() bool { return w.hi>>63 == 1 }

func (w wide) negated() wide {
	lo, borrow := bits.Sub64(0, w.lo, 0)
	hi, _ := bits.Sub64(0, w.hi, borrow)
	return wide{hi, lo}
}

func (w wide) size() wide {
	if w.negative() {
		return w.negated()
	}
	return w
}

func (w wide) sign() int {
	switch {
	case w.negative():
		return -1
	case w == wide{}:
		return 0
	}
	return 1
}

func (w wide) plus(v wide) wide {
	lo, carry := bits.Add64(w.lo, v.lo, 0)
	hi, _ := bits.Add64(w.hi, v.hi, carry)
	return wide{hi, lo}
}

// over returns w / d for a divisor of w.
func (w wide) over(d uint64) wide {
	size := w.size()
	hi := size.hi / d
	lo, _ := bits.Div64(size.hi%d, size.lo, d)
	if w.negative() {
		return wide{hi, lo}.negated()
	}
	return wide{hi, lo}
}

// modulo returns the remainder of the absolute value.
func (w wide) modulo(d uint64) uint64 {
	size := w.size()
	return bits.Rem64(size.hi, size.lo, d)
}

// fits reports whether the number is less than Bound, whatever its sign.
func (w wide) fits() bool {
	size := w.size()
	return size.hi == 0 && size.lo < Bound
}

// narrow expects a number that fits.
func (w wide) narrow() int64 { return int64(w.lo) }
