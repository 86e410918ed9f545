package tests

import (
	"math"
	"math/big"
	"slices"
	"strings"
	"testing"

	"loop.example/g00051/impl"
)

const (
	mostOf     = 100000
	mostWhole  = math.MaxInt64
	leastWhole = math.MinInt64
)

func TestClimateNumbers(t *testing.T) {
	if impl.MaxSeries != 500 {
		t.Error(impl.MaxSeries)
	}
}

// wrongSeries are none, too long, or have a number that is out of bounds.
func wrongSeries() [][]int64 {
	wrong := [][]int64{nil, {}, times(501, int64(0)), times(501, int64(7)), riseFrom(1, 502), times(5000, int64(-1))}
	for _, n := range []int{1, 2, 7, 500} {
		for _, at := range []int{0, n / 2, n - 1} {
			for _, number := range []int64{mostOf + 1, -mostOf - 1, mostWhole, leastWhole, 1 << 32} {
				series := times(n, int64(3))
				series[at] = number
				wrong = append(wrong, series)
			}
		}
	}
	return wrong
}

// edgeSeries are right, but just so.
func edgeSeries() [][]int64 {
	return [][]int64{
		{0}, {mostOf}, {-mostOf}, {5, 5}, {5, 6}, {6, 5}, {mostOf, -mostOf}, {-mostOf, mostOf}, {mostOf, mostOf}, {-mostOf, -mostOf}, {-1, 0, 1},
		times(500, int64(0)), times(500, int64(mostOf)), times(500, int64(-mostOf)), times(250, int64(mostOf), -mostOf), times(250, int64(-mostOf), mostOf), riseFrom(-250, 500),
		slices.Concat(times(250, int64(mostOf)), times(250, int64(-mostOf))), slices.Concat(times(250, int64(-mostOf)), times(250, int64(mostOf))),
	}
}

func rolledSeries(d *dice, count int) []int64 {
	most := []int64{1, 3, 20, 1000, mostOf}[d.below(5)]
	middle := []int64{0, 0, mostOf - most, most - mostOf}[d.below(4)]
	var series []int64
	for _, number := range rolledMembers(d, count, most) {
		series = append(series, middle+number)
	}
	if d.below(3) == 0 {
		return steppedUp(d, series)
	}
	return series
}

// steppedUp is a series with a step in it, as far as the bounds let it be.
func steppedUp(d *dice, series []int64) []int64 {
	step := d.below(201) - 100
	for i := d.below(int64(len(series))); i < int64(len(series)); i++ {
		series[i] = min(mostOf, max(-mostOf, series[i]+step))
	}
	return series
}

func someSeries(seed dice, count int) [][]int64 {
	list := edgeSeries()
	for cells := range 4 {
		list = append(list, allRows(cells+1, -3, 0, 1, 4)...)
	}
	for i := range count {
		size := 1 + i%40
		if i%50 == 0 {
			size = 1 + int(seed.below(500))
		}
		list = append(list, rolledSeries(&seed, size))
	}
	return list
}

func TestWrongSeries(t *testing.T) {
	for _, series := range wrongSeries() {
		for _, n := range []int64{0, 1, 2, 3, 500, -1, mostOf, mostWhole, leastWhole} {
			if x, ok := impl.OrderStat(series, n); x != 0 || ok {
				t.Errorf("OrderStat(%v, %d) = %d, %v", series, n, x, ok)
			}
			if x, ok := impl.Share(series, 1, n); x != 0 || ok {
				t.Errorf("Share(%v, 1, %d) = %d, %v", series, n, x, ok)
			}
			if x := impl.Degrees(series, n); x != 0 {
				t.Errorf("Degrees(%v, %d) = %d", series, n, x)
			}
			if at, long := impl.Spell(series, n); at != -1 || long != 0 {
				t.Errorf("Spell(%v, %d) = %d, %d", series, n, at, long)
			}
			if over, under := impl.Returns(series, n); over != 0 || under != 0 {
				t.Errorf("Returns(%v, %d) = %d, %d", series, n, over, under)
			}
		}
		if k, off := impl.Break(series); k != 0 || off != 0 {
			t.Errorf("Break(%v) = %d, %d", series, k, off)
		}
		if list, step := impl.Homogen(series); len(list) != 0 || step != 0 {
			t.Errorf("Homogen(%v) = %v, %d", series, list, step)
		}
		if list, ok := impl.Normals([][]int64{series}); len(list) != 0 || ok {
			t.Errorf("Normals of %v = %v, %v", series, list, ok)
		}
	}
}

func TestOrderStatByHand(t *testing.T) {
	for _, c := range []struct {
		series []int64
		k      int64
		want   int64
		ok     bool
	}{
		{[]int64{7}, 1, 7, true}, {[]int64{7}, 0, 0, false}, {[]int64{7}, 2, 0, false}, {[]int64{7}, mostWhole, 0, false}, {[]int64{7}, leastWhole, 0, false}, {[]int64{7}, -1, 0, false},
		{[]int64{9, -4}, 1, -4, true}, {[]int64{9, -4}, 2, 9, true}, {[]int64{9, -4}, 3, 0, false}, {[]int64{9, -4}, 0, 0, false},
		{[]int64{3, 1, 3, 1, 2}, 1, 1, true}, {[]int64{3, 1, 3, 1, 2}, 2, 1, true}, {[]int64{3, 1, 3, 1, 2}, 3, 2, true}, {[]int64{3, 1, 3, 1, 2}, 4, 3, true}, {[]int64{3, 1, 3, 1, 2}, 5, 3, true}, {[]int64{3, 1, 3, 1, 2}, 6, 0, false},
		{[]int64{mostOf, -mostOf, 0}, 1, -mostOf, true}, {[]int64{mostOf, -mostOf, 0}, 2, 0, true}, {[]int64{mostOf, -mostOf, 0}, 3, mostOf, true},
		{times(500, int64(8)), 1, 8, true}, {times(500, int64(8)), 500, 8, true}, {times(500, int64(8)), 501, 0, false}, {times(500, int64(8)), 1 << 32, 0, false},
		{riseFrom(-250, 500), 1, -250, true}, {riseFrom(-250, 500), 251, 0, true}, {riseFrom(-250, 500), 500, 249, true},
	} {
		if got, ok := impl.OrderStat(c.series, c.k); got != c.want || ok != c.ok {
			t.Errorf("OrderStat(%v, %d) = %d, %v", c.series, c.k, got, ok)
		}
	}
}

// countUpTo is how many are not above x.
func countUpTo(series []int64, x int64) int64 {
	return countBelow(series, x+1)
}

// Promise 19: order statistics do not fall.
func TestOrderStatsDoNotFall(t *testing.T) {
	d := dice(1901)
	for _, series := range someSeries(1902, 600) {
		n := int64(len(series))
		other := shuffled(&d, series)
		last := int64(leastWhole)
		for k := int64(1); k <= n; k++ {
			got, ok := impl.OrderStat(series, k)
			// Fewer than k are below it, k and more are not above it, and it is one of them.
			if !ok || got < last || !slices.Contains(series, got) || countBelow(series, got) >= k || countUpTo(series, got) < k {
				t.Fatalf("OrderStat(%v, %d) = %d, %v behind %d", series, k, got, ok, last)
			}
			if again, _ := impl.OrderStat(other, k); again != got {
				t.Fatalf("of %v, in another order, %d is number %d and not %d", series, again, k, got)
			}
			last = got
		}
		for _, k := range []int64{0, -1, n + 1, n + 2, mostWhole, leastWhole} {
			if got, ok := impl.OrderStat(series, k); got != 0 || ok {
				t.Fatalf("OrderStat(%v, %d) = %d, %v", series, k, got, ok)
			}
		}
	}
}

func TestShareByHand(t *testing.T) {
	ten := []int64{40, 10, 30, 20, 50, 60, 70, 80, 90, 100}
	for _, c := range []struct {
		series         []int64
		num, den, want int64
		ok             bool
	}{
		{[]int64{7}, 1, 1, 7, true}, {[]int64{7}, 1, 1000, 7, true}, {[]int64{7}, 1000, 1000, 7, true}, {[]int64{7}, 0, 1, 0, false}, {[]int64{7}, 2, 1, 0, false}, {[]int64{7}, 1, 0, 0, false}, {[]int64{7}, 0, 0, 0, false}, {[]int64{7}, 1, 1001, 0, false}, {[]int64{7}, 1001, 1001, 0, false}, {[]int64{7}, 1001, 1000, 0, false}, {[]int64{7}, 0, 1000, 0, false}, {[]int64{7}, -1, 2, 0, false}, {[]int64{7}, -1, -2, 0, false}, {[]int64{7}, 1, -1, 0, false},
		// A share that is just reached, and one that is just missed.
		{ten, 3, 10, 30, true}, {ten, 299, 1000, 30, true}, {ten, 300, 1000, 30, true}, {ten, 301, 1000, 40, true}, {ten, 1, 10, 10, true}, {ten, 1, 11, 10, true}, {ten, 100, 1000, 10, true}, {ten, 101, 1000, 20, true}, {ten, 1, 1000, 10, true}, {ten, 1, 9, 20, true}, {ten, 9, 10, 90, true}, {ten, 900, 1000, 90, true}, {ten, 901, 1000, 100, true}, {ten, 999, 1000, 100, true}, {ten, 1000, 1000, 100, true}, {ten, 1, 1, 100, true}, {ten, 1, 3, 40, true}, {ten, 2, 3, 70, true}, {ten, 1, 2, 50, true},
		// Equal ones are reached together.
		{[]int64{2, 1, 1, 1}, 1, 4, 1, true}, {[]int64{2, 1, 1, 1}, 3, 4, 1, true}, {[]int64{2, 1, 1, 1}, 751, 1000, 2, true}, {[]int64{2, 2, 2, 1}, 1, 4, 1, true}, {[]int64{2, 2, 2, 1}, 251, 1000, 2, true}, {[]int64{5, 5, 5}, 1, 1000, 5, true}, {[]int64{5, 5, 5}, 1, 1, 5, true},
		{[]int64{mostOf, -mostOf}, 1, 2, -mostOf, true}, {[]int64{mostOf, -mostOf}, 501, 1000, mostOf, true}, {[]int64{mostOf, -mostOf}, 500, 1000, -mostOf, true},
		{riseFrom(1, 500), 1, 500, 1, true}, {riseFrom(1, 500), 2, 1000, 1, true}, {riseFrom(1, 500), 3, 1000, 2, true}, {riseFrom(1, 500), 1, 1000, 1, true}, {riseFrom(1, 500), 998, 1000, 499, true}, {riseFrom(1, 500), 999, 1000, 500, true},
		{ten, mostWhole, mostWhole, 0, false}, {ten, 1, mostWhole, 0, false}, {ten, mostWhole, 1, 0, false}, {ten, mostWhole, 1000, 0, false}, {ten, leastWhole, 1000, 0, false}, {ten, leastWhole, leastWhole, 0, false}, {ten, 1, leastWhole, 0, false},
	} {
		if got, ok := impl.Share(c.series, c.num, c.den); got != c.want || ok != c.ok {
			t.Errorf("Share(%v, %d, %d) = %d, %v", c.series, c.num, c.den, got, ok)
		}
	}
}

// shareBySearch looks at each number of the series.
func shareBySearch(series []int64, num, den int64) int64 {
	found := int64(mostWhole)
	for _, x := range series {
		if countUpTo(series, x)*den >= num*int64(len(series)) {
			found = min(found, x)
		}
	}
	return found
}

// Promise 19: shares are among the order statistics, and do not fall.
func TestSharesAreAmongThem(t *testing.T) {
	d := dice(1903)
	for i, series := range someSeries(1904, 500) {
		dens := []int64{1, 2, 7, int64(len(series)), 1000, 1 + d.below(1000)}
		for _, den := range dens {
			last := int64(leastWhole)
			for num := int64(1); num <= den; num += 1 + den/int64(20+i%30) {
				got, ok := impl.Share(series, num, den)
				if !ok || got != shareBySearch(series, num, den) || got < last {
					t.Fatalf("Share(%v, %d, %d) = %d, %v", series, num, den, got, ok)
				}
				last = got
			}
			for _, num := range []int64{0, -1, den + 1} {
				if got, ok := impl.Share(series, num, den); got != 0 || ok {
					t.Fatalf("Share(%v, %d, %d) = %d, %v", series, num, den, got, ok)
				}
			}
		}
		n := int64(len(series))
		for k := int64(1); k <= n; k++ {
			stat, _ := impl.OrderStat(series, k)
			if got, ok := impl.Share(series, k, n); got != stat || !ok {
				t.Fatalf("%d of %d of %v: %d, and number %d is %d", k, n, series, got, k, stat)
			}
		}
	}
}

func TestDegreesByHand(t *testing.T) {
	for _, c := range []struct {
		series     []int64
		base, want int64
	}{
		{[]int64{5}, 4, 1}, {[]int64{5}, 5, 0}, {[]int64{5}, 6, 0}, {[]int64{-5}, -6, 1}, {[]int64{-5}, -5, 0}, {[]int64{-5}, -4, 0}, {[]int64{-5}, 0, 0}, {[]int64{5}, 0, 5},
		{[]int64{3, -2, 7, 3}, 3, 4}, {[]int64{3, -2, 7, 3}, 2, 7}, {[]int64{3, -2, 7, 3}, 8, 0}, {[]int64{3, -2, 7, 3}, 7, 0}, {[]int64{3, -2, 7, 3}, 6, 1}, {[]int64{3, -2, 7, 3}, -2, 19}, {[]int64{3, -2, 7, 3}, -3, 23}, {[]int64{3, -2, 7, 3}, -4, 27},
		{[]int64{mostOf}, mostOf, 0}, {[]int64{mostOf}, mostOf - 1, 1}, {[]int64{mostOf}, -mostOf, 2 * mostOf}, {[]int64{-mostOf}, -mostOf, 0}, {[]int64{-mostOf}, mostOf, 0},
		{[]int64{mostOf}, -mostOf - 1, 0}, {[]int64{mostOf}, mostOf + 1, 0}, {[]int64{mostOf}, leastWhole, 0}, {[]int64{mostOf}, mostWhole, 0}, {[]int64{0, 1}, -mostOf - 1, 0},
		{times(500, int64(mostOf)), -mostOf, 500 * 2 * mostOf}, {times(500, int64(mostOf)), -mostOf - 1, 0}, {times(500, int64(-mostOf)), -mostOf, 0}, {riseFrom(1, 500), 0, 125250}, {riseFrom(1, 500), 499, 1}, {riseFrom(1, 500), 500, 0},
	} {
		if got := impl.Degrees(c.series, c.base); got != c.want {
			t.Errorf("Degrees(%v, %d) = %d and not %d", c.series, c.base, got, c.want)
		}
	}
}

// From one base to the next the sum falls by one for each number above the former.
func TestDegreesFallByWhatIsAbove(t *testing.T) {
	for _, series := range someSeries(1905, 300) {
		highest := slices.Max(series)
		if got := impl.Degrees(series, highest); got != 0 {
			t.Fatalf("Degrees(%v, %d) = %d", series, highest, got)
		}
		for base := highest - 1; base >= -mostOf && base > highest-60; base-- {
			above := int64(len(series)) - countUpTo(series, base)
			if got := impl.Degrees(series, base) - impl.Degrees(series, base+1); got != above {
				t.Fatalf("Degrees(%v, %d) is %d more than one above", series, base, got)
			}
		}
		// From below all on each number has the whole of its difference.
		if got, want := impl.Degrees(series, -mostOf), totalOf(series)+int64(len(series))*mostOf; got != want {
			t.Fatalf("Degrees(%v, %d) = %d and not %d", series, -mostOf, got, want)
		}
	}
}

func TestSpellByHand(t *testing.T) {
	for _, c := range []struct {
		series          []int64
		level, at, long int64
	}{
		{[]int64{5}, 5, 0, 1}, {[]int64{5}, 6, -1, 0}, {[]int64{5}, 4, 0, 1}, {[]int64{5}, mostWhole, -1, 0}, {[]int64{5}, leastWhole, 0, 1}, {[]int64{-5}, -5, 0, 1}, {[]int64{-5}, -4, -1, 0},
		// None, one, two that are as long as each other.
		{[]int64{1, 2, 3}, 4, -1, 0}, {[]int64{1, 2, 3}, 3, 2, 1}, {[]int64{3, 1, 3}, 3, 0, 1}, {[]int64{3, 3, 1, 3, 3}, 3, 0, 2}, {[]int64{1, 3, 1, 3, 1}, 2, 1, 1}, {[]int64{1, 3, 4, 1, 5, 3, 1}, 3, 1, 2}, {[]int64{1, 3, 4, 1, 5, 3, 6, 1}, 3, 4, 3}, {[]int64{3, 3, 3, 1, 5, 3}, 3, 0, 3},
		// At the front, at the end, the whole series.
		{[]int64{4, 4, 0, 0}, 4, 0, 2}, {[]int64{0, 0, 4, 4}, 4, 2, 2}, {[]int64{0, 4, 0, 4, 4}, 4, 3, 2}, {[]int64{4, 4, 0, 4}, 4, 0, 2}, {[]int64{4, 5, 6}, 4, 0, 3}, {[]int64{4, 5, 6}, leastWhole, 0, 3}, {[]int64{4, 5, 6}, mostWhole, -1, 0}, {[]int64{4, 5, 6}, 5, 1, 2}, {[]int64{4, 5, 6}, 7, -1, 0},
		{[]int64{mostOf, -mostOf}, mostOf, 0, 1}, {[]int64{mostOf, -mostOf}, mostOf + 1, -1, 0}, {[]int64{mostOf, -mostOf}, -mostOf, 0, 2}, {[]int64{mostOf, -mostOf}, -mostOf + 1, 0, 1}, {[]int64{-mostOf, mostOf}, 0, 1, 1},
		{times(500, int64(9)), 9, 0, 500}, {times(500, int64(9)), 10, -1, 0}, {riseFrom(0, 500), 250, 250, 250}, {riseFrom(0, 500), 499, 499, 1}, {times(250, int64(1), 2), 2, 1, 1},
	} {
		if at, long := impl.Spell(c.series, c.level); at != c.at || long != c.long {
			t.Errorf("Spell(%v, %d) = %d, %d", c.series, c.level, at, long)
		}
	}
}

// marked has an x for each number that is at least level, and a blank for each other.
func marked(series []int64, level int64) string {
	var text strings.Builder
	for _, number := range series {
		if number >= level {
			text.WriteByte('x')
		} else {
			text.WriteByte(' ')
		}
	}
	return text.String()
}

func levelsOf(d *dice, series []int64) []int64 {
	number := series[d.below(int64(len(series)))]
	return []int64{number, number + 1, number - 1, slices.Min(series), slices.Max(series), slices.Max(series) + 1, mostWhole, leastWhole}
}

// The longest run is the longest text of marks that stands in them, and it is where that stands first.
func TestSpellsAndReturnsByMarks(t *testing.T) {
	d := dice(1906)
	for _, series := range someSeries(1907, 1500) {
		for _, level := range levelsOf(&d, series) {
			marks := marked(series, level)
			long := 0
			for strings.Contains(marks, strings.Repeat("x", long+1)) {
				long++
			}
			place := -1
			if long > 0 {
				place = strings.Index(marks, strings.Repeat("x", long))
			}
			if at, n := impl.Spell(series, level); at != int64(place) || n != int64(long) {
				t.Fatalf("Spell(%v, %d) = %d, %d and not %d, %d", series, level, at, n, place, long)
			}
			want := big.NewRat(int64(len(strings.Fields(marks))), int64(len(series)))
			if over, under := impl.Returns(series, level); over != want.Num().Int64() || under != want.Denom().Int64() {
				t.Fatalf("Returns(%v, %d) = %d, %d and not %v", series, level, over, under, want)
			}
		}
	}
}

func TestReturnsByHand(t *testing.T) {
	for _, c := range []struct {
		series             []int64
		level, over, under int64
	}{
		{[]int64{5}, 5, 1, 1}, {[]int64{5}, 6, 0, 1}, {[]int64{5}, 4, 1, 1}, {[]int64{5}, mostWhole, 0, 1}, {[]int64{5}, leastWhole, 1, 1},
		// The first number at level and below it.
		{[]int64{5, 1}, 5, 1, 2}, {[]int64{4, 1}, 5, 0, 1}, {[]int64{4, 5}, 5, 1, 2}, {[]int64{5, 5}, 5, 1, 2}, {[]int64{5, 4, 5}, 5, 2, 3}, {[]int64{4, 5, 4}, 5, 1, 3}, {[]int64{4, 5, 4, 5}, 5, 1, 2}, {[]int64{5, 4, 5, 4}, 5, 1, 2},
		// None and all.
		{[]int64{1, 2, 3, 4}, 5, 0, 1}, {[]int64{1, 2, 3, 4}, 1, 1, 4}, {[]int64{1, 2, 3, 4}, leastWhole, 1, 4}, {[]int64{1, 2, 3, 4}, mostWhole, 0, 1}, {[]int64{4, 3, 2, 1}, 3, 1, 4},
		// Those that shorten and those that don't.
		{[]int64{5, 1, 5, 1, 1, 1}, 5, 1, 3}, {[]int64{5, 1, 5, 1, 5, 1}, 5, 1, 2}, {[]int64{5, 1, 5, 1, 5}, 5, 3, 5}, {[]int64{5, 1, 5, 1, 5, 1, 1}, 5, 3, 7}, {[]int64{5, 1, 5, 1, 5, 1, 1, 1, 1}, 5, 1, 3}, {[]int64{5, 1, 5, 1, 5, 1, 5, 1, 1, 1}, 5, 2, 5},
		{[]int64{mostOf, -mostOf}, mostOf, 1, 2}, {[]int64{mostOf, -mostOf}, mostOf + 1, 0, 1}, {[]int64{mostOf, -mostOf}, -mostOf, 1, 2}, {[]int64{-mostOf, mostOf}, -mostOf + 1, 1, 2},
		{times(500, int64(9)), 9, 1, 500}, {times(500, int64(9)), 10, 0, 1}, {times(250, int64(1), 2), 2, 1, 2}, {times(250, int64(2), 1), 2, 1, 2}, {times(100, int64(2), 1, 2, 1, 1), 2, 2, 5}, {riseFrom(0, 499), 3, 1, 499},
	} {
		if over, under := impl.Returns(c.series, c.level); over != c.over || under != c.under {
			t.Errorf("Returns(%v, %d) = %d, %d", c.series, c.level, over, under)
		}
	}
}

func TestBreakByHand(t *testing.T) {
	half := slices.Concat(times(250, int64(-mostOf)), times(250, int64(mostOf)))
	for _, c := range []struct {
		series []int64
		k, off int64
	}{
		{[]int64{7}, 0, 0}, {[]int64{mostOf}, 0, 0}, {[]int64{-mostOf}, 0, 0}, {[]int64{3, 8}, 1, 5}, {[]int64{8, 3}, 1, 5}, {[]int64{4, 4}, 1, 0}, {[]int64{-mostOf, mostOf}, 1, 2 * mostOf}, {[]int64{mostOf, -mostOf}, 1, 2 * mostOf},
		// At the first place and at the last.
		{[]int64{9, 1, 1, 1}, 1, 24}, {[]int64{1, 9, 9, 9}, 1, 24}, {[]int64{1, 1, 1, 9}, 3, 24}, {[]int64{9, 9, 9, 1}, 3, 24}, {[]int64{1, 1, 9, 9}, 2, 32},
		// Two places that are alike, of one sign and of both: the first.
		{[]int64{0, 3, 0}, 1, 3}, {[]int64{0, 0, 6, 0, 0}, 2, 12}, {[]int64{5, 0, 0, 5}, 1, 10}, {[]int64{0, 5, 5, 10}, 1, 20}, {[]int64{-3, 0, 3}, 1, 9}, {[]int64{0, 1, 0, 1}, 1, 2},
		{[]int64{3, 0, -3}, 1, 9}, {[]int64{-1, -9, -1}, 1, 8}, {[]int64{-7, -7, 2, 2, 2}, 2, 54},
		// Without a break.
		{[]int64{6, 6, 6, 6}, 1, 0}, {[]int64{-6, -6, -6}, 1, 0}, {times(500, int64(mostOf)), 1, 0}, {times(500, int64(-mostOf)), 1, 0},
		{half, 250, 500 * 250 * mostOf}, {slices.Concat(half[250:], half[:250]), 250, 500 * 250 * mostOf}, {append([]int64{mostOf}, times(499, int64(-mostOf))...), 1, 499 * 2 * mostOf}, {append(times(499, int64(-mostOf)), mostOf), 499, 499 * 2 * mostOf},
	} {
		if k, off := impl.Break(c.series); k != c.k || off != c.off {
			t.Errorf("Break(%v) = %d, %d", c.series, k, off)
		}
	}
}

// meansAround are the means of the first k and of the others.
func meansAround(series []int64, k int) (ahead, behind *big.Rat) {
	return big.NewRat(totalOf(series[:k]), int64(k)), big.NewRat(totalOf(series[k:]), int64(len(series)-k))
}

// breakByMeans takes the place where the means of both sides are farthest apart, times both sides' lengths.
func breakByMeans(series []int64) (int64, int64) {
	place, most := 0, new(big.Rat).SetInt64(-1)
	for k := 1; k < len(series); k++ {
		ahead, behind := meansAround(series, k)
		off := new(big.Rat).Sub(behind, ahead)
		off.Abs(off).Mul(off, big.NewRat(int64(k*(len(series)-k)), 1))
		if off.Cmp(most) > 0 {
			place, most = k, off
		}
	}
	if place == 0 {
		return 0, 0
	}
	return int64(place), most.Num().Int64()
}

// stepByMeans is the difference of the means without what is behind its point.
func stepByMeans(series []int64, k int) int64 {
	ahead, behind := meansAround(series, k)
	off := new(big.Rat).Sub(behind, ahead)
	return new(big.Int).Quo(off.Num(), off.Denom()).Int64()
}

func homogenByMeans(series []int64) ([]int64, int64) {
	list := slices.Clone(series)
	if len(series) == 1 {
		return list, 0
	}
	k, _ := breakByMeans(series)
	step := stepByMeans(series, int(k))
	for i := range k {
		list[i] += step
		if list[i] > mostOf || list[i] < -mostOf {
			return nil, 0
		}
	}
	return list, step
}

func homogen(t *testing.T, series []int64, step int64, want ...int64) {
	t.Helper()
	if got, by := impl.Homogen(series); !slices.Equal(got, want) || by != step {
		t.Errorf("Homogen(%v) = %v, %d and not %v, %d", series, got, by, want, step)
	}
}

func TestHomogenByHand(t *testing.T) {
	homogen(t, []int64{7}, 0, 7)
	homogen(t, []int64{mostOf}, 0, mostOf)
	homogen(t, []int64{-mostOf}, 0, -mostOf)
	homogen(t, []int64{3, 8}, 5, 8, 8)
	homogen(t, []int64{8, 3}, -5, 3, 3)
	homogen(t, []int64{-mostOf, mostOf}, 2*mostOf, mostOf, mostOf)
	homogen(t, []int64{mostOf, -mostOf}, -2*mostOf, -mostOf, -mostOf)
	// Without a break, and with one of a half, of two and of three thirds, of 249 by 250, each way.
	homogen(t, []int64{6, 6, 6}, 0, 6, 6, 6)
	homogen(t, []int64{0, 0, 1, 0}, 0, 0, 0, 1, 0)
	homogen(t, []int64{0, 0, -1, 0}, 0, 0, 0, -1, 0)
	homogen(t, []int64{0, 1, 0, 1}, 0, 0, 1, 0, 1)
	homogen(t, []int64{0, -1, 0, -1}, 0, 0, -1, 0, -1)
	homogen(t, []int64{0, 0, 0, 1}, 1, 1, 1, 1, 1)
	homogen(t, []int64{0, 0, 0, -1}, -1, -1, -1, -1, -1)
	nearly := append(times(250, int64(0)), append(times(249, int64(1)), 0)...)
	homogen(t, nearly, 0, nearly...)
	slices.Reverse(nearly)
	homogen(t, nearly, 0, nearly...)
	// Rounded towards 0 each way: 1 1/2, 1 1/3, 1 2/3, 1 1/4, 7 1/6.
	homogen(t, []int64{0, 1, 2}, 1, 1, 1, 2)
	homogen(t, []int64{2, 1, 0}, -1, 1, 1, 0)
	homogen(t, []int64{0, 2, 1, 1}, 1, 1, 2, 1, 1)
	homogen(t, []int64{0, -2, -1, -1}, -1, -1, -2, -1, -1)
	homogen(t, []int64{0, 2, 2, 1}, 1, 1, 2, 2, 1)
	homogen(t, []int64{0, -2, -2, -1}, -1, -1, -2, -2, -1)
	homogen(t, []int64{-1, 0, 1, 0, 0}, 1, 0, 0, 1, 0, 0)
	homogen(t, []int64{1, 0, -1, 0, 0}, -1, 0, 0, -1, 0, 0)
	homogen(t, []int64{1, 2, 1, 9, 8}, 7, 8, 9, 8, 9, 8)
	homogen(t, []int64{-1, -2, -1, -9, -8}, -7, -8, -9, -8, -9, -8)
	homogen(t, []int64{9, 1, 1, 1}, -8, 1, 1, 1, 1)
	homogen(t, []int64{1, 1, 1, 9}, 8, 9, 9, 9, 9)
	homogen(t, append(times(499, int64(-mostOf)), mostOf), 2*mostOf, times(500, int64(mostOf))...)
}

// The first two are 10 to each side of their mean, so with the step they are so far to each side of the others.
func TestHomogenAtTheBounds(t *testing.T) {
	const most = mostOf
	homogen(t, []int64{50, 30, most - 10, most - 10}, most-50, most, most-20, most-10, most-10)
	homogen(t, []int64{51, 29, most - 10, most - 10}, 0)
	homogen(t, []int64{30, 50, most - 10, most - 10}, most-50, most-20, most, most-10, most-10)
	homogen(t, []int64{29, 51, most - 10, most - 10}, 0)
	homogen(t, []int64{-50, -30, 10 - most, 10 - most}, 50-most, -most, 20-most, 10-most, 10-most)
	homogen(t, []int64{-51, -29, 10 - most, 10 - most}, 0)
	homogen(t, []int64{-30, -50, 10 - most, 10 - most}, 50-most, 20-most, -most, 10-most, 10-most)
	homogen(t, []int64{-29, -51, 10 - most, 10 - most}, 0)
	homogen(t, []int64{most, -most, most, most}, 0)
	homogen(t, []int64{-most, most, most, most}, 2*most, most, most, most, most)
	homogen(t, append(times(249, int64(-most), most), most, most), 0)
}

// Promise 19: behind its step a series has no break of a whole unit: where it was, the means of both sides differ by less than 1.
func keepsNineteen(t *testing.T, series []int64) bool {
	t.Helper()
	k, off := impl.Break(series)
	list, step := impl.Homogen(series)
	if at, most := breakByMeans(series); k != at || off != most {
		t.Fatalf("Break(%v) = %d, %d and not %d, %d", series, k, off, at, most)
	}
	if want, by := homogenByMeans(series); !slices.Equal(list, want) || step != by {
		t.Fatalf("Homogen(%v) = %v, %d and not %v, %d", series, list, step, want, by)
	}
	if len(list) == 0 || k == 0 {
		return len(list) != 0
	}
	ahead, behind := meansAround(list, int(k))
	if rest := new(big.Rat).Sub(behind, ahead); rest.Abs(rest).Cmp(big.NewRat(1, 1)) >= 0 {
		t.Fatalf("Homogen(%v) = %v has a break of %v at %d", series, list, rest, k)
	}
	if !slices.Equal(list[k:], series[k:]) {
		t.Fatalf("Homogen(%v) = %v changed what is behind %d", series, list, k)
	}
	return true
}

func TestBehindItsStepNoBreak(t *testing.T) {
	kept, refused := 0, 0
	for _, series := range someSeries(1908, 2500) {
		if keepsNineteen(t, series) {
			kept++
		} else {
			refused++
		}
	}
	if kept < 2000 || refused < 50 {
		t.Error(kept, "stepped and", refused, "refused")
	}
}

func TestAllShortSeriesAreStepped(t *testing.T) {
	for cells := range 7 {
		for _, series := range allRows(cells+1, -3, 0, 1, 2) {
			keepsNineteen(t, series)
		}
	}
}

func TestNormalsByHand(t *testing.T) {
	for _, c := range []struct {
		years [][]int64
		want  []int64
	}{
		{[][]int64{{7}}, []int64{7}}, {[][]int64{{mostOf, -mostOf, 0}}, []int64{mostOf, -mostOf, 0}}, {[][]int64{{4, -4}, {4, -4}}, []int64{4, -4}},
		// Halves above 0 and below, to the even one each way.
		{[][]int64{{0, 1, 2, 3, 4}, {1, 2, 3, 4, 5}}, []int64{0, 2, 2, 4, 4}}, {[][]int64{{0, -1, -2, -3, -4}, {-1, -2, -3, -4, -5}}, []int64{0, -2, -2, -4, -4}},
		{[][]int64{{mostOf, -mostOf}, {mostOf - 1, 1 - mostOf}}, []int64{mostOf, -mostOf}}, {[][]int64{{mostOf - 1, 1 - mostOf}, {mostOf - 2, 2 - mostOf}}, []int64{mostOf - 2, 2 - mostOf}},
		{[][]int64{{1, -1, 5}, {0, 0, 5}, {0, 0, 5}, {1, -1, 5}}, []int64{0, 0, 5}}, {[][]int64{{1, -1}, {1, -1}, {2, -2}, {2, -2}}, []int64{2, -2}},
		// Just beside a half.
		{[][]int64{{0, 0}, {0, 0}, {1, -1}}, []int64{0, 0}}, {[][]int64{{0, 0}, {1, -1}, {1, -1}}, []int64{1, -1}}, {[][]int64{{1, -1}, {1, -1}, {2, -2}}, []int64{1, -1}}, {[][]int64{{1, -1}, {2, -2}, {2, -2}}, []int64{2, -2}}, {[][]int64{{0, -3}, {0, 0}, {0, 0}, {3, 0}}, []int64{1, -1}}, {[][]int64{{0, -1}, {0, 0}, {0, 0}, {1, 0}}, []int64{0, 0}},
		{[][]int64{{mostOf}, {-mostOf}}, []int64{0}}, {times(100, []int64{mostOf, -mostOf}), []int64{mostOf, -mostOf}}, {append(times(50, []int64{0, -1}), times(50, []int64{1, 0})...), []int64{0, 0}}, {append(times(49, []int64{0, -1}), times(51, []int64{1, -2})...), []int64{1, -2}}, {append(times(51, []int64{0, -1}), times(49, []int64{1, -2})...), []int64{0, -1}}, {append(times(50, []int64{1, -2}), times(50, []int64{2, -1})...), []int64{2, -2}},
		{[][]int64{riseFrom(0, 500), riseFrom(2, 500)}, riseFrom(1, 500)}, {times(100, riseFrom(-250, 500)), riseFrom(-250, 500)},
	} {
		if got, ok := impl.Normals(c.years); !slices.Equal(got, c.want) || !ok {
			t.Errorf("Normals(%v) = %v, %v", c.years, got, ok)
		}
	}
}

func wrongYears() [][][]int64 {
	wrong := [][][]int64{
		nil, {}, times(101, []int64{1}), times(101, riseFrom(0, 500)), times(200, []int64{1, 2}), {{1}, {1, 2}}, {{1, 2}, {1}}, {{1, 2}, nil}, {nil, {1, 2}}, {nil, nil}, {{}, {}}, {{1, 2}, {1, 2}, {1, 2, 3}}, {{1, 2}, {1}, {1, 2}},
		{times(500, int64(1)), times(501, int64(1))}, {times(501, int64(1)), times(501, int64(1))}, append(times(99, []int64{1, 2}), []int64{1}), append([][]int64{{1}}, times(99, []int64{1, 2})...),
	}
	for _, series := range wrongSeries() {
		right := times(len(series), int64(1))
		wrong = append(wrong, [][]int64{series}, [][]int64{series, right}, [][]int64{right, series}, [][]int64{right, series, right}, append(times(99, right), series))
	}
	return wrong
}

func TestWrongYears(t *testing.T) {
	for _, years := range wrongYears() {
		if got, ok := impl.Normals(years); len(got) != 0 || ok {
			t.Errorf("Normals(%v) = %v, %v", years, got, ok)
		}
	}
}

// rolledYears are series of one length that are near one another, so that many means end in a half.
func rolledYears(d *dice) [][]int64 {
	count, size := 1+d.below(12), int(1+d.below(30))
	if d.below(10) == 0 {
		count, size = 1+d.below(100), int(1+d.below(500))
	}
	first := rolledSeries(d, size)
	var years [][]int64
	for range count {
		series := slices.Clone(first)
		for i := range series {
			series[i] = min(mostOf, max(-mostOf, series[i]+d.below(4)-1))
		}
		years = append(years, series)
	}
	return years
}

// Twice the sum lies within one year of what the normal has twice of all, and only of an even one at just that.
func TestNormalsAreNearest(t *testing.T) {
	d := dice(1909)
	halves := 0
	for range 1500 {
		years := rolledYears(&d)
		got, ok := impl.Normals(years)
		if !ok || len(got) != len(years[0]) {
			t.Fatalf("Normals(%v) = %v, %v", years, got, ok)
		}
		count := int64(len(years))
		for i, normal := range got {
			sum := int64(0)
			for _, series := range years {
				sum += series[i]
			}
			off := max(2*sum-2*normal*count, 2*normal*count-2*sum)
			if off > count || off == count && normal%2 != 0 {
				t.Fatalf("Normals(%v) = %v: %d of a sum of %d", years, got, normal, sum)
			}
			if off == count {
				halves++
			}
		}
		if again, _ := impl.Normals(shuffled(&d, years)); !slices.Equal(again, got) {
			t.Fatalf("Normals(%v) asks which year is first", years)
		}
	}
	if halves < 500 {
		t.Error("only", halves, "halves")
	}
}
