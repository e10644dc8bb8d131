package plan

import (
	"math/bits"

	"belvedere/api"
)

// total is a whole number in two words, one below 0 as 2^128 more: no sum of as many numbers of 64 bits as there may
// be is past its ends, so that whether it fits can be asked when all are in it.
type total struct{ high, low uint64 }

// sum answers the sum of a bag of rows of one value.
func sum(l []api.Many) (api.Value, api.Errno) {
	var t total
	for _, m := range l {
		v := m.Row[0]
		if v.Kind != api.TInt {
			return api.Value{}, api.ErrType
		}
		t = t.plus(v.N, m.N)
	}
	n, ok := t.narrow()
	if !ok {
		return api.Value{}, api.ErrOverflow
	}
	return number(n), api.OK
}

// plus answers t and so many times n; many isn't below 0.
func (t total) plus(n, many int) total {
	high, low := bits.Mul64(uint64(n), uint64(many))
	if n < 0 {
		// As a word n is 2^64 more than it is.
		high -= uint64(many)
	}
	low, carry := bits.Add64(t.low, low, 0)
	high, _ = bits.Add64(t.high, high, carry)
	return total{high, low}
}

// narrow answers t as a number of 64 bits, and whether it is one: then its high word is all sign.
func (t total) narrow() (int, bool) {
	n := int64(t.low)
	if t.high != uint64(n>>63) {
		return 0, false
	}
	return int(n), true
}
