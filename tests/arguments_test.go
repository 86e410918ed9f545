package tests

import (
	"math"
	"slices"
	"testing"

	"loop.example/g00051/impl"
)

// spare is a list with room behind it, in which something stands.
func spare(list []float64) (within []float64, whole []float64) {
	whole = append(append([]float64{}, list...), 7, none, below0, -7)
	return whole[:len(list)], whole
}

func bitsOf(list []float64) []uint64 {
	bits := make([]uint64, len(list))
	for i, x := range list {
		bits[i] = math.Float64bits(x)
	}
	return bits
}

func lists() [][]float64 {
	return [][]float64{nil, {}, {1}, {none}, {3, 1, 2}, {none, 0, below0, high, -5, payload, low, 0.1, 0.2, 0.3}, filled(impl.MaxList, 2), filled(impl.MaxList+1, 2)}
}

func TestListsStayAsTheyWere(t *testing.T) {
	for _, list := range lists() {
		given, whole := spare(list)
		before := bitsOf(whole)
		sum, count := impl.Sum(given)
		mean := impl.Mean(given)
		ordered := bitsOf(impl.Order(given))
		if !slices.Equal(before, bitsOf(whole)) {
			t.Fatalf("a list of %d was written into", len(list))
		}
		sum2, count2 := impl.Sum(given)
		if !sameFloat(sum, sum2) || count != count2 || !sameFloat(mean, impl.Mean(given)) || !slices.Equal(ordered, bitsOf(impl.Order(given))) {
			t.Fatalf("a list of %d has two answers", len(list))
		}
		tight := append([]float64{}, list...)
		if !slices.Equal(ordered, bitsOf(impl.Order(tight[:len(tight):len(tight)]))) {
			t.Fatalf("a list of %d: the room behind it shows", len(list))
		}
	}
}

func TestOrderIsNewMemory(t *testing.T) {
	for _, list := range lists() {
		given, whole := spare(list)
		before := bitsOf(whole)
		first, second := impl.Order(given), impl.Order(given)
		kept := bitsOf(second)
		for i := range first {
			first[i] = 99
		}
		first = append(first, 99)
		if !slices.Equal(before, bitsOf(whole)) || !slices.Equal(kept, bitsOf(second)) {
			t.Fatalf("an answer of %d shares its memory", len(first)-1)
		}
	}
}

func TestSlotsAreNewMemory(t *testing.T) {
	s := impl.Span{From: 5, To: 500}
	first := impl.Slots(s, 30)
	kept := append([]int64{}, first...)
	second := impl.Slots(s, 30)
	for i := range second {
		second[i] = -1
	}
	if !slices.Equal(first, kept) || !slices.Equal(impl.Slots(s, 30), kept) {
		t.Error("answers share their memory")
	}
}

// answersOf has all that chapters 1 and 2 answer to these numbers, as texts and numbers that can be compared.
func answersOf(x, y float64, n, m int64, text string) [40]any {
	var a [40]any
	a[0], a[1] = impl.Same(x, y), impl.Known(x)
	a[2], a[3] = two(impl.Nearest(x))
	a[4] = impl.Told(x, n)
	r, ok := impl.ReadNumber(text)
	a[5], a[6] = math.Float64bits(r), ok
	d, ok := impl.DateOf(n)
	a[7], a[8] = d, ok
	a[9], a[10] = two(impl.TimeOf(d))
	a[11] = impl.Stamp(n)
	a[12], a[13] = two(impl.ReadStamp(text))
	a[14], a[15] = two(impl.NearDay(m%33, n%26, m%61, n))
	a[16], a[17] = impl.DayOfYear(n), impl.Weekday(n)
	a[18], a[19] = overlap(n, m)
	for i, slot := range impl.Slots(impl.Span{From: n, To: n + 100}, m) {
		a[20+i%20] = slot
	}
	return a
}

func two(n int64, ok bool) (any, any) {
	return n, ok
}

func overlap(n, m int64) (any, any) {
	s, ok := impl.Overlap(impl.Span{From: n, To: n + 50}, impl.Span{From: m, To: m + 50})
	return s, ok
}

func TestSameArgumentsSameAnswers(t *testing.T) {
	var first [][40]any
	for round := range 2 {
		d := dice(7)
		for i := range 3000 {
			odd := oddNumbers()
			x, y := odd[d.below(int64(len(odd)))], odd[d.below(int64(len(odd)))]
			n, m := d.below(impl.MaxTime+200)-100, d.below(impl.MaxTime+200)-100
			if i%3 == 0 {
				n, m = n%9-1, m%9-1
			}
			text := impl.Told(x, n)
			if i%2 == 0 {
				text = impl.Stamp(m)
			}
			answers := answersOf(x, y, n, m, text)
			if round == 0 {
				first = append(first, answers)
			} else if first[i] != answers {
				t.Fatalf("%v, %v, %d, %d, %q: two answers", x, y, n, m, text)
			}
		}
	}
}
