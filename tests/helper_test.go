package tests

import "math"

var (
	none    = math.NaN()
	high    = math.Inf(1)
	low     = math.Inf(-1)
	below0  = math.Copysign(0, -1)
	least   = math.SmallestNonzeroFloat64
	most    = math.MaxFloat64
	payload = math.Float64frombits(0xFFF8000000000007) // another NaN
)

// dice is a row of numbers that is the same in every run.
type dice uint64

func (d *dice) next() uint64 {
	*d = *d*6364136223846793005 + 1442695040888963407
	x := uint64(*d)
	return (x ^ x>>29) * 0x9E3779B97F4A7C15
}

func (d *dice) below(n int64) int64 {
	return int64(d.next() >> 1 % uint64(n))
}

// sameFloat says it by itself, so that a fault of Same can't hide another.
func sameFloat(a, b float64) bool {
	if a != a || b != b {
		return a != a && b != b
	}
	return math.Float64bits(a) == math.Float64bits(b)
}
