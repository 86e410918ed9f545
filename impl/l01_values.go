package impl

import (
	"cmp"
	"math"
	"slices"
	"strconv"
	"strings"
)

const (
	MaxWhole  = 1000000000000000
	MaxPlaces = 6
	MaxList   = 4000
)

const (
	exponentBits = 0x7FF << 52
	signBit      = 1 << 63
)

const (
	missingText = "/"
	highText    = "high"
	lowText     = "low"
	farText     = "far"
)

func Same(a float64, b float64) bool {
	if math.IsNaN(a) || math.IsNaN(b) {
		return math.IsNaN(a) && math.IsNaN(b)
	}
	return math.Float64bits(a) == math.Float64bits(b)
}

func Known(x float64) bool {
	return math.Float64bits(x)&exponentBits != exponentBits
}

func Nearest(x float64) (int64, bool) {
	if !Known(x) || x < -MaxWhole || x > MaxWhole {
		return 0, false
	}
	return int64(math.RoundToEven(x)), true
}

func Told(x float64, places int64) string {
	switch {
	case !within(places, 0, MaxPlaces):
		return ""
	case math.IsNaN(x):
		return missingText
	case math.IsInf(x, 1):
		return highText
	case math.IsInf(x, -1):
		return lowText
	}
	whole, ok := Nearest(float64(x * powerOfTen(places)))
	if !ok {
		return farText
	}
	return pointed(whole, places)
}

func ReadNumber(text string) (float64, bool) {
	switch text {
	case missingText:
		return math.NaN(), true
	case highText:
		return math.Inf(1), true
	case lowText:
		return math.Inf(-1), true
	}
	ahead, behind, _ := strings.Cut(text, ".")
	places := int64(len(behind))
	if places > MaxPlaces {
		return 0, false
	}
	whole, err := strconv.ParseInt(joined(ahead, behind), 10, 64)
	if err != nil || !within(whole, -MaxWhole, MaxWhole) {
		return 0, false
	}
	// The parser takes signs and noughts that are never written.
	if pointed(whole, places) != text {
		return 0, false
	}
	return float64(whole) / powerOfTen(places), true
}

func Sum(list []float64) (float64, int64) {
	if len(list) > MaxList {
		return 0, -1
	}
	sum, count := float64(0), int64(0)
	for _, x := range list {
		if Known(x) {
			sum += x
			count++
		}
	}
	return sum, count
}

func Mean(list []float64) float64 {
	sum, count := Sum(list)
	if count <= 0 {
		return math.NaN()
	}
	return sum / float64(count)
}

func Order(list []float64) []float64 {
	if len(list) > MaxList {
		return nil
	}
	ordered := make([]float64, len(list))
	copy(ordered, list)
	slices.SortStableFunc(ordered, byPlace)
	return ordered
}

func byPlace(a float64, b float64) int {
	return cmp.Compare(placeOf(a), placeOf(b))
}

// placeOf turns the bits so that they rise as the numbers do: those of numbers
// below 0 fall otherwise, and == would not tell -0 from 0.
func placeOf(x float64) uint64 {
	bits := math.Float64bits(x)
	switch {
	case math.IsNaN(x):
		return math.MaxUint64
	case bits&signBit != 0:
		return ^bits
	}
	return bits | signBit
}

// powerOfTen is exact up to 22 places, and the program asks for no more.
func powerOfTen(places int64) float64 {
	power := float64(1)
	for range places {
		power *= 10
	}
	return power
}

// pointed takes no number below -MaxWhole, so its sign may be turned.
func pointed(whole int64, places int64) string {
	sign := ""
	if whole < 0 {
		sign, whole = "-", -whole
	}
	digits := padded(whole, places+1)
	if places == 0 {
		return joined(sign, digits)
	}
	point := len(digits) - int(places)
	return joined(sign, digits[:point], ".", digits[point:])
}

// padded writes a number that is not below 0.
func padded(n int64, width int64) string {
	digits := strconv.FormatInt(n, 10)
	noughts := max(0, int(width)-len(digits))
	return joined(strings.Repeat("0", noughts), digits)
}

func joined(pieces ...string) string {
	return strings.Join(pieces, "")
}

func within(n int64, low int64, high int64) bool {
	return low <= n && n <= high
}

func modulo(n int64, by int64) int64 {
	return (n%by + by) % by
}
