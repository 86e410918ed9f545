package tests

import (
	"math"
	"slices"
	"testing"

	"loop.example/g00051/impl"
)

const lastHour = 1000000

func TestTideNumbers(t *testing.T) {
	if impl.MaxParts != 40 {
		t.Error(impl.MaxParts)
	}
}

func partOf(speed int64, re, im float64) impl.Constituent {
	return impl.Constituent{Speed: speed, Amp: pairAt(re, im)}
}

func samePart(a, b impl.Constituent) bool {
	return a.Speed == b.Speed && samePair(a.Amp, b.Amp)
}

func sameParts(a, b []impl.Constituent) bool {
	return slices.EqualFunc(a, b, samePart)
}

// wrongParts are too many, or one of them is too fast.
func wrongParts() [][]impl.Constituent {
	wrong := [][]impl.Constituent{times(41, partOf(1, 2, 3)), times(41, impl.Constituent{}), times(42, partOf(9, 1, 0)), times(4000, partOf(0, 1, 1))}
	for _, n := range []int{1, 2, 9, 40} {
		for _, at := range []int{0, n / 2, n - 1} {
			for _, speed := range []int64{101, -101, 1000, math.MaxInt64, math.MinInt64, 1 << 32} {
				parts := times(n, partOf(5, 2, 1))
				parts[at].Speed = speed
				wrong = append(wrong, parts)
			}
		}
	}
	return wrong
}

func wrongHours() []int64 {
	return []int64{lastHour + 1, -lastHour - 1, lastHour + 36, 1 << 32, -1 << 32, math.MaxInt64, math.MinInt64, math.MaxInt64 - 1, math.MinInt64 + 1}
}

func someHours() []int64 {
	hours := []int64{0, 1, -1, 2, -2, 8, 9, 10, 17, 18, 19, 27, 35, 36, 37, -9, -18, -35, -36, -37, 1000, -1000, lastHour, -lastHour, lastHour - 1, 1 - lastHour}
	d := dice(2001)
	for range 30 {
		hours = append(hours, d.below(2*lastHour+1)-lastHour)
	}
	return hours
}

// rolledParts has Amps of which some have parts that are missing, infinite, -0 or as great as may be, so often as is told.
func rolledParts(d *dice, count int, oddOnes int64) []impl.Constituent {
	var parts []impl.Constituent
	for _, amp := range rolledPairs(d, count, oddOnes) {
		speed := []int64{d.below(201) - 100, d.below(37), 100, -100, 0}[d.below(5)]
		parts = append(parts, impl.Constituent{Speed: speed, Amp: amp})
	}
	return parts
}

func someParts() [][]impl.Constituent {
	list := [][]impl.Constituent{nil, {}, {{}}, {partOf(100, 1, 2)}, {partOf(-100, 1, 2)}, times(40, partOf(7, 0.1, -0.3)), times(40, partOf(-100, most, most)), times(40, partOf(3, below0, below0))}
	for _, amp := range somePairs() {
		list = append(list, []impl.Constituent{{Speed: 5, Amp: amp}}, []impl.Constituent{partOf(1, 2, 3), {Speed: -9, Amp: amp}})
	}
	d := dice(2002)
	for i := range 300 {
		list = append(list, rolledParts(&d, i%41, []int64{0, 0, 1, 5, 30}[i%5]))
	}
	return list
}

// turnBySteps has the cosine and the sine from the ten numbers of chapter 3.
func turnBySteps(k int64) impl.Pair {
	at := int((k%36 + 36) % 36)
	return pairAt(sineAt((at+9)%36), sineAt(at))
}

func heightBySteps(parts []impl.Constituent, hour int64) float64 {
	sum := 0.0
	for _, p := range parts {
		turned := productBySteps(p.Amp, turnBySteps(p.Speed*hour))
		sum = float64(sum + turned.Re)
	}
	return sum
}

func TestWrongTides(t *testing.T) {
	for _, parts := range wrongParts() {
		for _, hour := range append(someHours(), wrongHours()...) {
			refusesTide(t, parts, hour)
		}
	}
	for _, parts := range someParts() {
		for _, hour := range wrongHours() {
			refusesTide(t, parts, hour)
		}
	}
}

func refusesTide(t *testing.T, parts []impl.Constituent, hour int64) {
	t.Helper()
	if got := impl.Height(parts, hour); got == got {
		t.Fatalf("Height(%v, %d) = %v", parts, hour, got)
	}
	for _, n := range []int64{0, 1, 2, 40} {
		if got := impl.HeightTable(parts, hour, n); len(got) != 0 {
			t.Fatalf("HeightTable(%v, %d, %d) = %v", parts, hour, n, got)
		}
	}
	if got := impl.Rotate(parts, hour); len(got) != 0 {
		t.Fatalf("Rotate(%v, %d) = %v", parts, hour, got)
	}
}

func TestHeightByHand(t *testing.T) {
	half := 0.8660254037844386
	for _, c := range []struct {
		parts []impl.Constituent
		hour  int64
		want  float64
	}{
		{nil, 0, 0}, {nil, lastHour, 0}, {nil, -lastHour, 0}, {[]impl.Constituent{}, 5, 0}, {[]impl.Constituent{{}}, 5, 0},
		{[]impl.Constituent{partOf(0, 3, 8)}, 77, 3}, {[]impl.Constituent{partOf(9, 3, 8)}, 0, 3}, {[]impl.Constituent{partOf(9, 3, 8)}, 1, -8}, {[]impl.Constituent{partOf(9, 3, 8)}, 2, -3}, {[]impl.Constituent{partOf(9, 3, 8)}, 3, 8}, {[]impl.Constituent{partOf(9, 3, 8)}, 4, 3}, {[]impl.Constituent{partOf(9, 3, 8)}, -1, 8}, {[]impl.Constituent{partOf(9, 3, 8)}, -2, -3}, {[]impl.Constituent{partOf(9, 3, 8)}, -3, -8},
		{[]impl.Constituent{partOf(-9, 3, 8)}, 1, 8}, {[]impl.Constituent{partOf(-9, 3, 8)}, -1, -8}, {[]impl.Constituent{partOf(1, 3, 8)}, 9, -8}, {[]impl.Constituent{partOf(3, 3, 8)}, 3, -8}, {[]impl.Constituent{partOf(3, 2, 0)}, 1, 2 * half}, {[]impl.Constituent{partOf(3, 0, 2)}, 1, -1}, {[]impl.Constituent{partOf(1, 2, 0)}, 6, 1}, {[]impl.Constituent{partOf(1, 2, 0)}, -6, 1}, {[]impl.Constituent{partOf(1, 0, 2)}, -6, 2 * half},
		// 100 times 1000000 is 28 more than what 36 divides, and -100 is 8 more.
		{[]impl.Constituent{partOf(100, 1, 0)}, lastHour, 0.17364817766693033}, {[]impl.Constituent{partOf(100, 0, 1)}, lastHour, 0.984807753012208}, {[]impl.Constituent{partOf(-100, 0, 1)}, lastHour, -0.984807753012208}, {[]impl.Constituent{partOf(100, 0, 1)}, -lastHour, -0.984807753012208}, {[]impl.Constituent{partOf(-100, 0, 1)}, -lastHour, 0.984807753012208}, {[]impl.Constituent{partOf(-100, 1, 0)}, 1, 0.17364817766693033},
		{[]impl.Constituent{partOf(9, 2, 1), partOf(0, 5, 0)}, 1, 4}, {[]impl.Constituent{partOf(9, 2, 1), partOf(18, 5, 7)}, 1, -6}, {times(40, partOf(18, 1, 0)), 1, -40}, {times(40, partOf(18, 1, 0)), 2, 40},
		// From the left: 1 and 1 get lost behind a great number, not ahead of it.
		{[]impl.Constituent{partOf(0, 1e16, 0), partOf(0, 1, 0), partOf(0, 1, 0)}, 3, 1e16}, {[]impl.Constituent{partOf(0, 1, 0), partOf(0, 1, 0), partOf(0, 1e16, 0)}, 3, 1e16 + 2},
		// -0 is none of what a sum from 0 on gives.
		{[]impl.Constituent{partOf(0, below0, 0)}, 1, 0}, {[]impl.Constituent{partOf(18, 0, 0)}, 1, 0}, {times(2, partOf(18, 0, below0)), 1, 0},
		// A nought beside what is missing or infinite does not save it.
		{[]impl.Constituent{partOf(0, none, 0)}, 0, none}, {[]impl.Constituent{partOf(0, 1, none)}, 0, none}, {[]impl.Constituent{partOf(0, 1, high)}, 0, none}, {[]impl.Constituent{partOf(0, high, 0)}, 0, high}, {[]impl.Constituent{partOf(18, high, 0)}, 1, low}, {[]impl.Constituent{partOf(0, low, 0), partOf(0, 5, 0)}, 0, low}, {[]impl.Constituent{partOf(0, low, 0), partOf(0, high, 0)}, 0, none}, {[]impl.Constituent{partOf(1, high, 0)}, 9, none}, {[]impl.Constituent{partOf(3, high, high)}, 1, none}, {[]impl.Constituent{partOf(3, high, low)}, 1, high}, {[]impl.Constituent{partOf(0, payload, 0), partOf(0, 1, 0)}, 0, none},
		{[]impl.Constituent{partOf(0, most, 0), partOf(0, most, 0)}, 0, high}, {[]impl.Constituent{partOf(0, -most, 0), partOf(0, -most, 0)}, 0, low}, {[]impl.Constituent{partOf(0, most, 0), partOf(18, most, 0)}, 1, 0}, {[]impl.Constituent{partOf(0, most, 0), partOf(0, most, 0), partOf(18, most, 0)}, 1, high}, {[]impl.Constituent{partOf(4, most, -most)}, 1, high}, {[]impl.Constituent{partOf(0, least, 0)}, 0, least}, {[]impl.Constituent{partOf(1, least, 0)}, 7, 0},
	} {
		if got := impl.Height(c.parts, c.hour); !sameFloat(got, c.want) {
			t.Errorf("Height(%v, %d) = %v and not %v", c.parts, c.hour, got, c.want)
		}
	}
}

// The two products of a part are rounded by themselves: fused, their difference would not be 0.
func TestHeightIsNotFused(t *testing.T) {
	s, c := turnSines[1], turnSines[8]
	if got := impl.Height([]impl.Constituent{partOf(1, s, c)}, 1); got != 0 {
		t.Error(got)
	}
}

func TestHeightBySteps(t *testing.T) {
	for _, parts := range someParts() {
		for _, hour := range someHours() {
			if got, want := impl.Height(parts, hour), heightBySteps(parts, hour); !sameFloat(got, want) {
				t.Fatalf("Height(%v, %d) = %v and not %v", parts, hour, got, want)
			}
		}
	}
}

func TestEachSpeedAtEachHour(t *testing.T) {
	for speed := int64(-100); speed <= 100; speed++ {
		parts := []impl.Constituent{partOf(speed, 2.5, -0.75)}
		for hour := int64(-40); hour <= 40; hour++ {
			if got, want := impl.Height(parts, hour), heightBySteps(parts, hour); !sameFloat(got, want) {
				t.Fatalf("Height(%v, %d) = %v and not %v", parts, hour, got, want)
			}
		}
	}
}

// Promise 20: tides come back behind 36 hours.
func TestTidesComeBack(t *testing.T) {
	for _, parts := range someParts() {
		for hour := int64(-36); hour < 0; hour++ {
			there := impl.Height(parts, hour)
			for _, turns := range []int64{1, 2, -1, 27776, -27776} {
				if again := impl.Height(parts, hour+36*turns); !sameFloat(again, there) {
					t.Fatalf("Height(%v, %d) = %v, and %v %d turns on", parts, hour, there, again, turns)
				}
			}
		}
		table := impl.HeightTable(parts, -50, 200)
		if !sameList(table[:164], table[36:]) {
			t.Fatalf("HeightTable(%v, -50, 200) does not come back", parts)
		}
	}
}

func TestHeightTableHasTheHeights(t *testing.T) {
	d := dice(2003)
	for i, parts := range someParts() {
		from, n := d.below(2*lastHour-100)-lastHour, d.below(100)
		if i%20 == 0 {
			from, n = lastHour-3999, impl.MaxList
		}
		got := impl.HeightTable(parts, from, n)
		if int64(len(got)) != n {
			t.Fatalf("HeightTable(%v, %d, %d) has %d", parts, from, n, len(got))
		}
		for k, height := range got {
			if want := heightBySteps(parts, from+int64(k)); !sameFloat(height, want) || !sameFloat(impl.Height(parts, from+int64(k)), want) {
				t.Fatalf("HeightTable(%v, %d, %d) has %v and not %v at %d", parts, from, n, height, want, k)
			}
		}
	}
}

func TestHeightTableBounds(t *testing.T) {
	parts := []impl.Constituent{partOf(9, 2, 1), partOf(0, 5, 0)}
	for _, c := range []struct {
		from, n int64
		want    int
	}{
		{0, -1, 0}, {0, 0, 0}, {0, 1, 1}, {0, impl.MaxList, impl.MaxList}, {0, impl.MaxList + 1, 0}, {0, math.MaxInt64, 0}, {0, math.MinInt64, 0}, {0, 1 << 32, 0},
		{lastHour, 0, 0}, {lastHour, 1, 1}, {lastHour, 2, 0}, {lastHour, impl.MaxList, 0}, {lastHour - 1, 2, 2}, {lastHour - 1, 3, 0}, {lastHour + 1, 0, 0}, {lastHour + 1, 1, 0}, {lastHour - 3999, impl.MaxList, impl.MaxList}, {lastHour - 3998, impl.MaxList, 0},
		{-lastHour, 0, 0}, {-lastHour, 1, 1}, {-lastHour, impl.MaxList, impl.MaxList}, {-lastHour, -1, 0}, {-lastHour, impl.MaxList + 1, 0}, {-lastHour - 1, 1, 0}, {-lastHour - 1, 2, 0}, {-lastHour - 1, impl.MaxList, 0},
		{math.MaxInt64, 1, 0}, {math.MaxInt64, impl.MaxList, 0}, {math.MaxInt64, math.MaxInt64, 0}, {math.MinInt64, 1, 0}, {math.MinInt64, 0, 0}, {math.MinInt64, math.MinInt64, 0}, {math.MinInt64, math.MaxInt64, 0}, {-5, 10, 10},
	} {
		got := impl.HeightTable(parts, c.from, c.n)
		if len(got) != c.want {
			t.Fatalf("from %d so many as %d: %d", c.from, c.n, len(got))
		}
		for i, height := range got {
			// 7 4 3 6, and so on.
			if want := []float64{7, 4, 3, 6}[((c.from+int64(i))%4+4)%4]; height != want {
				t.Fatalf("from %d so many as %d: %v at %d", c.from, c.n, height, i)
			}
		}
	}
	if got := impl.HeightTable(nil, -3, 5); !sameList(got, make([]float64, 5)) {
		t.Error("of no parts", got)
	}
}

func highs(t *testing.T, table []float64, want ...int64) {
	t.Helper()
	if got := impl.Highs(table); !slices.Equal(got, want) {
		t.Errorf("Highs(%v) = %v and not %v", table, got, want)
	}
}

func TestHighsByHand(t *testing.T) {
	highs(t, nil)
	highs(t, []float64{})
	highs(t, []float64{5})
	highs(t, []float64{5, 9})
	highs(t, []float64{9, 5})
	highs(t, []float64{1, 2, 1}, 1)
	highs(t, []float64{1, 2, 3})
	highs(t, []float64{3, 2, 1})
	highs(t, []float64{2, 1, 2})
	// Equal ones side by side: the first of them, and none behind a rise that goes on.
	highs(t, []float64{2, 2, 1})
	highs(t, []float64{1, 2, 2}, 1)
	highs(t, []float64{2, 2, 2})
	highs(t, []float64{1, 2, 2, 1}, 1)
	highs(t, []float64{1, 2, 2, 2, 1}, 1)
	highs(t, []float64{1, 2, 2, 3, 1}, 1, 3)
	highs(t, []float64{1, 2, 2, 2, 5, 5}, 1, 4)
	highs(t, []float64{6, 7, 4, 3, 6, 7}, 1)
	highs(t, []float64{0, 1, 0, 1, 0, 1, 0}, 1, 3, 5)
	highs(t, []float64{-3, -2, -3, -1, -5}, 1, 3)
	// 0 and -0 are as high as each other.
	highs(t, []float64{below0, 0, below0})
	highs(t, []float64{-1, 0, below0}, 1)
	highs(t, []float64{-1, below0, 0}, 1)
	highs(t, []float64{-least, below0, -1}, 1)
	highs(t, []float64{0, least, 0}, 1)
	// A missing one counts neither as less nor as the same.
	highs(t, []float64{none, 2, 1})
	highs(t, []float64{1, 2, none})
	highs(t, []float64{1, none, 1})
	highs(t, []float64{none, none, none})
	highs(t, []float64{1, 2, 1, none, 1, 2, 1}, 1, 5)
	highs(t, []float64{payload, 2, 1, 3, 2}, 3)
	// Infinite ones are above all, and as high as each other.
	highs(t, []float64{1, high, 1}, 1)
	highs(t, []float64{1, high, high}, 1)
	highs(t, []float64{high, high, 1})
	highs(t, []float64{high, 1, high})
	highs(t, []float64{low, 1, low}, 1)
	highs(t, []float64{low, low, low})
	highs(t, []float64{low, -most, low}, 1)
	highs(t, []float64{1, most, high, most}, 2)
	highs(t, []float64{1, high, none})
}

func TestHighsOfLongTables(t *testing.T) {
	table := times(2000, 1.0, 2.0)
	var want []int64
	for i := int64(1); i < 3999; i += 2 {
		want = append(want, i)
	}
	highs(t, table, want...)
	highs(t, append(table, 1))
	highs(t, append(slices.Clone(table), 1, 2))
	highs(t, times(20000, 1.0, 2.0))
	highs(t, times(impl.MaxList, 3.0))
	// 3998 is the last place that may count.
	last := make([]float64, impl.MaxList)
	last[3998] = 1
	highs(t, last, 3998)
	last[3998], last[3999] = 0, 1
	highs(t, last)
}

func TestHighsBySteps(t *testing.T) {
	d := dice(2004)
	numbers := []float64{0, below0, 1, 2, 3, none, high, low, payload, -1}
	for range 4000 {
		var table []float64
		for range d.below(12) {
			table = append(table, numbers[d.below([]int64{5, 10}[d.below(2)])])
		}
		var want []int64
		for i, x := range table {
			if i == 0 || i == len(table)-1 || x != x {
				continue
			}
			if ahead, behind := table[i-1], table[i+1]; ahead < x && (behind < x || behind == x) {
				want = append(want, int64(i))
			}
		}
		highs(t, table, want...)
	}
}

func analyseBySteps(table []float64, speed int64) impl.Pair {
	re, im := 0.0, 0.0
	for i, x := range table {
		turned := productBySteps(pairAt(x, 0), turnBySteps(-speed*int64(i)))
		re, im = float64(re+turned.Re), float64(im+turned.Im)
	}
	return pairAt(re/18, im/18)
}

func TestAnalyseWrongOnes(t *testing.T) {
	for _, n := range []int{0, 1, 18, 35, 37, 72, impl.MaxList, impl.MaxList + 1} {
		for _, speed := range []int64{0, 1, 17, 18} {
			if got := impl.Analyse(filled(n, 2), speed); !isNone(got) {
				t.Errorf("of %d at speed %d: %v", n, speed, got)
			}
		}
	}
	if got := impl.Analyse(nil, 1); !isNone(got) {
		t.Error("of nothing", got)
	}
	for _, speed := range []int64{0, -1, 18, 19, 36, 37, -17, math.MaxInt64, math.MinInt64, 1 << 32, 1<<32 + 1} {
		if got := impl.Analyse(filled(36, 2), speed); !isNone(got) {
			t.Errorf("at speed %d: %v", speed, got)
		}
	}
}

func TestAnalyseByHand(t *testing.T) {
	for speed := int64(1); speed <= 17; speed++ {
		if got := impl.Analyse(make([]float64, 36), speed); !samePair(got, pairAt(0, 0)) {
			t.Errorf("of noughts at speed %d: %v", speed, got)
		}
		if got := impl.Analyse(filled(36, below0), speed); !samePair(got, pairAt(0, 0)) {
			t.Errorf("of -0 at speed %d: %v", speed, got)
		}
		for i := range 36 {
			table := make([]float64, 36)
			table[i] = 36
			turn := turnBySteps(-speed * int64(i))
			if got := impl.Analyse(table, speed); got != pairAt(36*turn.Re/18, 36*turn.Im/18) {
				t.Errorf("of a single one at %d at speed %d: %v", i, speed, got)
			}
		}
	}
	// 2 cosines and 1 sine less, quarter by quarter.
	if got := impl.Analyse(times(9, 2.0, -1, -2, 1), 9); got != pairAt(2, 1) {
		t.Error(got)
	}
	if got := impl.Analyse(append(make([]float64, 35), none), 3); !isNone(got) {
		t.Error("with a missing one", got)
	}
	if got := impl.Analyse(append(make([]float64, 35), high), 9); !samePair(got, pairAt(none, high)) {
		t.Error("with an infinite one", got)
	}
	if got := impl.Analyse(append([]float64{high}, make([]float64, 35)...), 3); !samePair(got, pairAt(high, none)) {
		t.Error("with an infinite one first", got)
	}
	// The sum is divided, not its terms.
	if got := impl.Analyse(append([]float64{most}, make([]float64, 35)...), 1); got.Re != most/18 {
		t.Error("as great as may be", got)
	}
	if got := impl.Analyse(append(times(3, most, 0, 0, 0), make([]float64, 24)...), 9); got.Re != high {
		t.Error("a sum that is too great", got)
	}
}

func rolledTable(d *dice, oddOnes int64) []float64 {
	var table []float64
	for _, p := range rolledPairs(d, 36, oddOnes) {
		table = append(table, p.Re)
	}
	return table
}

func TestAnalyseBySteps(t *testing.T) {
	d := dice(2005)
	for i := range 400 {
		table := rolledTable(&d, []int64{0, 0, 1, 3, 40}[i%5])
		for speed := int64(1); speed <= 17; speed++ {
			if got, want := impl.Analyse(table, speed), analyseBySteps(table, speed); !samePair(got, want) {
				t.Fatalf("Analyse(%v, %d) = %v and not %v", table, speed, got, want)
			}
		}
	}
}

func nearPair(a, b impl.Pair, by float64) bool {
	return math.Abs(a.Re-b.Re) <= by && math.Abs(a.Im-b.Im) <= by
}

// What is analysed of a table of heights is each part's Amp, nearly; of speeds that are in none of the parts it is nothing.
func TestAnalyseFindsTheParts(t *testing.T) {
	d := dice(2006)
	for range 300 {
		amps := make([]impl.Pair, 18)
		parts := []impl.Constituent{partOf(0, float64(d.below(100)), 0)}
		for speed := int64(1); speed <= 17; speed++ {
			if d.below(2) == 0 {
				amps[speed] = pairAt(float64(d.below(2001)-1000)/10, float64(d.below(2001)-1000)/10)
				parts = append(parts, impl.Constituent{Speed: speed + 36*d.below(2), Amp: amps[speed]})
			}
		}
		table := impl.HeightTable(parts, 0, 36)
		later := d.below(2*lastHour-100) - lastHour
		fromThen := impl.HeightTable(parts, later, 36)
		for speed := int64(1); speed <= 17; speed++ {
			if got := impl.Analyse(table, speed); !nearPair(got, amps[speed], 1e-9) {
				t.Fatalf("speed %d of %v: %v", speed, parts, got)
			}
			turned := productBySteps(amps[speed], turnBySteps(speed*later))
			if got := impl.Analyse(fromThen, speed); !nearPair(got, turned, 1e-9) {
				t.Fatalf("speed %d of %v from %d on: %v and not %v", speed, parts, later, got, turned)
			}
		}
	}
}

func TestRotateByHand(t *testing.T) {
	parts := []impl.Constituent{partOf(9, 2, 1), partOf(0, 5, 0), partOf(-9, 3, 4), partOf(1, 7, 8), partOf(100, 1, 1)}
	for _, c := range []struct {
		hours int64
		want  []impl.Constituent
	}{
		{0, parts}, {36, parts}, {-36, parts}, {-36 * 27777, parts},
		{9, []impl.Constituent{partOf(9, -1, 2), partOf(0, 5, 0), partOf(-9, 4, -3), partOf(1, -8, 7), partOf(100, 1, 1)}},
		{18, []impl.Constituent{partOf(9, -2, -1), partOf(0, 5, 0), partOf(-9, -3, -4), partOf(1, -7, -8), partOf(100, 1, 1)}},
		{-9, []impl.Constituent{partOf(9, 1, -2), partOf(0, 5, 0), partOf(-9, -4, 3), partOf(1, 8, -7), partOf(100, 1, 1)}},
		{27, []impl.Constituent{partOf(9, 1, -2), partOf(0, 5, 0), partOf(-9, -4, 3), partOf(1, 8, -7), partOf(100, 1, 1)}},
	} {
		if got := impl.Rotate(parts, c.hours); !slices.Equal(got, c.want) {
			t.Errorf("Rotate(%v, %d) = %v", parts, c.hours, got)
		}
	}
	for _, hours := range []int64{0, 1, lastHour, -lastHour, lastHour + 1} {
		if got := impl.Rotate(nil, hours); len(got) != 0 {
			t.Error("of nothing", got)
		}
	}
	for _, speed := range []int64{-100, -99, 0, 99, 100} {
		for _, hours := range []int64{lastHour, -lastHour} {
			if got := impl.Rotate(times(40, partOf(speed, 1, 0)), hours); len(got) != 40 || !samePart(got[39], impl.Constituent{Speed: speed, Amp: productBySteps(pairAt(1, 0), turnBySteps(speed*hours))}) {
				t.Errorf("by %d hours at speed %d: %v", hours, speed, got)
			}
		}
	}
	// A nought beside what is missing or infinite does not save it; the sign of a nought is what the sums give.
	odd := []impl.Constituent{partOf(0, none, 1), partOf(0, 1, high), partOf(0, below0, 0), partOf(0, below0, below0), partOf(0, most, -most), partOf(18, most, -most)}
	want := []impl.Constituent{partOf(0, none, none), partOf(0, none, high), partOf(0, below0, 0), partOf(0, 0, below0), partOf(0, most, -most), partOf(18, -most, most)}
	if got := impl.Rotate(odd, 1); !sameParts(got, want) {
		t.Error(got)
	}
}

func TestRotateBySteps(t *testing.T) {
	for _, parts := range someParts() {
		for _, hours := range someHours() {
			got := impl.Rotate(parts, hours)
			if len(got) != len(parts) {
				t.Fatalf("Rotate(%v, %d) = %v", parts, hours, got)
			}
			for i, p := range parts {
				want := impl.Constituent{Speed: p.Speed, Amp: productBySteps(p.Amp, turnBySteps(p.Speed*hours))}
				if !samePart(got[i], want) {
					t.Fatalf("Rotate(%v, %d) has %v and not %v at %d", parts, hours, got[i], want, i)
				}
			}
		}
	}
}

// quarterParts turn by quarters and have whole numbers, so that nothing is rounded.
func quarterParts(d *dice, count int) []impl.Constituent {
	var parts []impl.Constituent
	for _, amp := range rolledWholes(d, count, 30) {
		parts = append(parts, impl.Constituent{Speed: 9 * (d.below(23) - 11), Amp: amp})
	}
	return parts
}

// Promise 20: a tide may be told from later on: exactly where nothing is rounded.
func TestTidesFromLaterOn(t *testing.T) {
	d := dice(2007)
	for i := range 600 {
		parts := quarterParts(&d, i%41)
		later := d.below(1000001) - 500000
		told := impl.Rotate(parts, later)
		for _, hour := range []int64{0, 1, -1, 35, 36, d.below(1000001) - 500000, d.below(1000001) - 500000} {
			if got, want := impl.Height(told, hour), impl.Height(parts, later+hour); got != want {
				t.Fatalf("%v, from %d on: Height %v and not %v at %d", parts, later, got, want, hour)
			}
		}
		if again := impl.Rotate(told, -later); !slices.Equal(again, parts) {
			t.Fatalf("%v, there and back by %d: %v", parts, later, again)
		}
		if got, want := impl.HeightTable(told, -20, 60), impl.HeightTable(parts, later-20, 60); !slices.Equal(got, want) {
			t.Fatalf("%v, from %d on: %v and not %v", parts, later, got, want)
		}
	}
}

// Of any speeds and Amps it is so nearly; at the beginning exactly, as there is nothing left to turn.
func TestTidesFromLaterOnNearly(t *testing.T) {
	d := dice(2008)
	for i := range 600 {
		parts := rolledParts(&d, i%41, 0)
		later, further := d.below(1000001)-500000, d.below(1000001)-500000
		told := impl.Rotate(parts, later)
		if got, want := impl.Height(told, 0), impl.Height(parts, later); got != want {
			t.Fatalf("%v, from %d on: Height %v and not %v", parts, later, got, want)
		}
		if got, want := impl.Height(told, further), impl.Height(parts, later+further); math.Abs(got-want) > 1e-7 {
			t.Fatalf("%v, from %d on: Height %v and not %v at %d", parts, later, got, want, further)
		}
		twice, once := impl.Rotate(told, further), impl.Rotate(parts, later+further)
		for k := range parts {
			if twice[k].Speed != once[k].Speed || !nearPair(twice[k].Amp, once[k].Amp, 1e-8) {
				t.Fatalf("%v, by %d and by %d: %v and not %v", parts, later, further, twice[k], once[k])
			}
		}
		if got := impl.Rotate(parts, 36*(later/36)); !slices.Equal(got, parts) {
			t.Fatalf("%v, by whole turns: %v", parts, got)
		}
	}
}
