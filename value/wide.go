package value

import "math/bits"

// wide is a whole number in two words, one below 0 as 2^128 more: no sum, difference or product
// of two numbers of 64 bits is past its ends, so that whether it fits can be asked afterwards.
type wide struct{ high, low uint64 }

func widen(n int) wide {
	return wide{uint64(int64(n) >> 63), uint64(n)}
}

func (a wide) plus(b wide) wide {
	low, carry := bits.Add64(a.low, b.low, 0)
	high, _ := bits.Add64(a.high, b.high, carry)
	return wide{high, low}
}

func (a wide) less(b wide) wide {
	low, borrow := bits.Sub64(a.low, b.low, 0)
	high, _ := bits.Sub64(a.high, b.high, borrow)
	return wide{high, low}
}

func product(a, b int) wide {
	high, low := bits.Mul64(size(a), size(b))
	p := wide{high, low}
	if (a < 0) != (b < 0) {
		return wide{}.less(p)
	}
	return p
}

// size is how far n is from 0: as an int the least number's size would be past the ends.
func size(n int) uint64 {
	if n < 0 {
		return -uint64(n)
	}
	return uint64(n)
}

// narrow answers a as a number of 64 bits, and whether it is one: then its high word is all sign.
func (a wide) narrow() (int, bool) {
	n := int64(a.low)
	if a.high != uint64(n>>63) {
		return 0, false
	}
	return int(n), true
}
