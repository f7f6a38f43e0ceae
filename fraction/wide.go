package fraction

import (
	"cmp"
	"math/bits"
)

// wide is a number of 128 bits that is not negative.
type wide struct {
	high, low uint64
}

func times(a, b uint64) wide {
	high, low := bits.Mul64(a, b)
	return wide{high, low}
}

func (a wide) plus(b wide) wide {
	low, carry := bits.Add64(a.low, b.low, 0)
	high, _ := bits.Add64(a.high, b.high, carry)
	return wide{high, low}
}

// minus takes away b, which is not greater than a.
func (a wide) minus(b wide) wide {
	low, borrow := bits.Sub64(a.low, b.low, 0)
	high, _ := bits.Sub64(a.high, b.high, borrow)
	return wide{high, low}
}

func (a wide) over(n uint64) wide {
	low, _ := bits.Div64(a.high%n, a.low, n)
	return wide{a.high / n, low}
}

func (a wide) modulo(n uint64) uint64 {
	return bits.Rem64(a.high, a.low, n)
}

func (a wide) compare(b wide) int {
	if a.high != b.high {
		return cmp.Compare(a.high, b.high)
	}
	return cmp.Compare(a.low, b.low)
}

func (a wide) less(b wide) bool {
	return a.compare(b) < 0
}

// size returns the number without its sign. The least int64 has one too.
func size(n int64) uint64 {
	if n < 0 {
		return -uint64(n)
	}
	return uint64(n)
}

// divisor returns the greatest common divisor.
func divisor(a, b uint64) uint64 {
	for b != 0 {
		a, b = b, a%b
	}
	return a
}
