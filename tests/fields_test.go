package tests

import (
	"math"
	"math/big"
	"slices"
	"sort"
	"testing"

	"loop.example/g00051/impl"
)

func gridOf(rows, cols, south, west, step int64) impl.Grid {
	return impl.Grid{Rows: rows, Cols: cols, South: south, West: west, Step: step}
}

// mildGrid has its last point at (30, 130).
func mildGrid() (impl.Grid, []float64) {
	return gridOf(4, 4, 0, 100, 10), []float64{
		0, 10, 20, 40,
		20, 30, 50, 80,
		1, 2, 4, 8,
		-7, 3, 5, 0.5,
	}
}

func TestGridsThatAreRight(t *testing.T) {
	for _, g := range []impl.Grid{
		gridOf(2, 2, 0, 0, 1), gridOf(64, 64, 0, 0, 1), gridOf(2, 64, 0, 0, 3000), gridOf(64, 2, -9000, 0, 285), gridOf(7, 7, -9000, -18000, 3000),
		gridOf(2, 2, -9000, 0, 1), gridOf(2, 2, 8999, 0, 1), gridOf(2, 2, 6000, 0, 3000), gridOf(4, 2, 0, 0, 3000), gridOf(64, 2, 8937, 0, 1),
		gridOf(2, 2, 0, -18000, 1), gridOf(2, 2, 0, 18000, 1), gridOf(2, 64, 0, 18000, 3000),
	} {
		if !impl.GridOk(g) {
			t.Error(g, "is right")
		}
	}
}

func wrongGrids() []impl.Grid {
	list := []impl.Grid{
		{}, gridOf(1, 2, 0, 0, 1), gridOf(2, 1, 0, 0, 1), gridOf(65, 2, 0, 0, 1), gridOf(2, 65, 0, 0, 1), gridOf(0, 2, 0, 0, 1), gridOf(2, 0, 0, 0, 1), gridOf(-2, -2, 0, 0, 1),
		gridOf(2, 2, 0, 0, 0), gridOf(2, 2, 0, 0, -1), gridOf(2, 2, 0, 0, 3001),
		gridOf(2, 2, -9001, 0, 1), gridOf(2, 2, 9000, 0, 1), gridOf(2, 2, 9001, 0, 1), gridOf(2, 2, 6001, 0, 3000), gridOf(64, 2, 8938, 0, 1), gridOf(8, 7, -9000, 0, 3000), gridOf(64, 2, -9000, 0, 286),
		gridOf(2, 2, 0, -18001, 1), gridOf(2, 2, 0, 18001, 1),
		gridOf(1<<32, 1<<32, 0, 0, 1), gridOf(1<<62, 4, 0, 0, 1), gridOf(4, 1<<62, 0, 0, 1), gridOf(1<<32+2, 1<<31, 0, 0, 1<<32), gridOf(5, 2, 0, 0, 1<<62), gridOf(2, 2, math.MaxInt64, 0, 1), gridOf(2, 2, 1, 0, math.MaxInt64),
	}
	for _, n := range []int64{math.MinInt64, math.MaxInt64} {
		list = append(list, gridOf(n, 2, 0, 0, 1), gridOf(2, n, 0, 0, 1), gridOf(2, 2, n, 0, 1), gridOf(2, 2, 0, n, 1), gridOf(2, 2, 0, 0, n), gridOf(n, n, n, n, n))
	}
	return list
}

func TestGridsThatAreNot(t *testing.T) {
	for _, g := range wrongGrids() {
		if impl.GridOk(g) {
			t.Error(g, "is not right")
		}
		for _, count := range []int{0, 1, 2, 4, 65, 130} {
			refusesField(t, g, times(count, 1.0), 0, 0)
		}
	}
}

// refusesField asks for the answers to a grid that isn't right, or to values that aren't its own.
func refusesField(t *testing.T, g impl.Grid, values []float64, lat, lon int64) {
	t.Helper()
	if x := impl.At(g, values, lat, lon); x == x {
		t.Errorf("At(%v, %d values) = %v", g, len(values), x)
	}
	if list := impl.Smooth(g, values); len(list) != 0 {
		t.Errorf("Smooth(%v, %d values) = %v", g, len(values), list)
	}
	if list := impl.Grads(g, values); len(list) != 0 {
		t.Errorf("Grads(%v, %d values) = %v", g, len(values), list)
	}
}

func TestValuesTooFewAndTooMany(t *testing.T) {
	for _, g := range []impl.Grid{gridOf(2, 2, 0, 0, 1), gridOf(2, 64, 0, 0, 1), gridOf(64, 64, 0, 0, 1), gridOf(3, 5, 0, 0, 1)} {
		count := int(g.Rows * g.Cols)
		for _, wrong := range []int{0, 1, count - 1, count + 1, 2 * count} {
			refusesField(t, g, times(wrong, 1.0), 0, 0)
		}
		values := times(count, 1.0)
		if impl.At(g, values, 0, 0) != 1 || len(impl.Smooth(g, values)) != count || len(impl.Grads(g, values)) != count {
			t.Error(g, "has", count, "values")
		}
	}
}

func TestAtKnownPlaces(t *testing.T) {
	g, values := mildGrid()
	for _, c := range []struct {
		lat, lon int64
		want     float64
	}{
		{0, 100, 0}, {0, 130, 40}, {30, 100, -7}, {30, 130, 0.5}, {10, 110, 30}, {20, 120, 4}, {20, 130, 8}, {30, 110, 3}, {10, 130, 80}, {30, 120, 5},
		{0, 105, 5}, {0, 125, 30}, {5, 100, 10}, {5, 130, 60}, {25, 130, 4.25}, {30, 115, 4}, {30, 125, 2.75},
		{5, 105, 15}, {15, 115, (40 + 3) / 2.0}, {25, 125, (6 + 2.75) / 2}, {5, 115, (15 + 40) / 2.0},
	} {
		if got := impl.At(g, values, c.lat, c.lon); !sameFloat(got, c.want) {
			t.Errorf("At(%d, %d) = %v and not %v", c.lat, c.lon, got, c.want)
		}
	}
	// A quarter east and a half north: 0 + 10 / 4, 20 + 10 / 4, and between them.
	if got := impl.At(gridOf(4, 4, -40, -100, 4), values, -38, -99); got != 12.5 {
		t.Error(got)
	}
}

func TestBeyondTheGrid(t *testing.T) {
	g, values := mildGrid()
	for _, at := range [][2]int64{
		{-1, 100}, {31, 100}, {0, 99}, {0, 131}, {-1, 99}, {31, 131}, {-1, 131}, {31, 99}, {15, 99}, {15, 131}, {-1, 115}, {31, 115}, {40, 130}, {30, 140},
		{math.MinInt64, 100}, {math.MaxInt64, 100}, {0, math.MinInt64}, {0, math.MaxInt64}, {math.MinInt64, math.MinInt64}, {math.MaxInt64, math.MaxInt64},
	} {
		if x := impl.At(g, values, at[0], at[1]); x == x {
			t.Errorf("At(%v) = %v", at, x)
		}
	}
	far := gridOf(2, 64, 6000, 18000, 3000)
	edge := times(128, 1.0)
	edge[127] = 5
	if x := impl.At(far, edge, 9000, 18000+63*3000); x != 5 {
		t.Error("the last point of a wide grid:", x)
	}
	if x := impl.At(far, edge, 9000, 18001+63*3000); x == x {
		t.Error("beyond the last point of a wide grid:", x)
	}
}

// lineBySearch is the greatest line that isn't beyond a place, found from the first on.
func lineBySearch(first, step, lines, at int64) int64 {
	found := int64(0)
	for line := range lines - 1 {
		if first+line*step <= at {
			found = line
		}
	}
	return found
}

func nearerBySearch(first, step, line, at int64) int64 {
	here, there := at-(first+line*step), first+(line+1)*step-at
	if there < here {
		return line + 1
	}
	return line
}

// atBySteps works At out by searching, each operation by itself.
func atBySteps(g impl.Grid, values []float64, lat, lon int64) float64 {
	if lat < g.South || lat > g.South+g.Step*(g.Rows-1) || lon < g.West || lon > g.West+g.Step*(g.Cols-1) {
		return none
	}
	i, j := lineBySearch(g.South, g.Step, g.Rows, lat), lineBySearch(g.West, g.Step, g.Cols, lon)
	var corners [4]float64
	known := true
	for k := range corners {
		corners[k] = values[(i+int64(k/2))*g.Cols+j+int64(k%2)]
		known = known && corners[k]-corners[k] == 0
	}
	if !known {
		return values[nearerBySearch(g.South, g.Step, i, lat)*g.Cols+nearerBySearch(g.West, g.Step, j, lon)]
	}
	fx, fy := float64(lon-g.West-j*g.Step)/float64(g.Step), float64(lat-g.South-i*g.Step)/float64(g.Step)
	var rows [2]float64
	for k := range rows {
		gap := corners[2*k+1] - corners[2*k]
		part := float64(gap * fx)
		rows[k] = corners[2*k] + part
	}
	gap := rows[1] - rows[0]
	part := float64(gap * fy)
	return rows[0] + part
}

func rolledGrid(d *dice) impl.Grid {
	g := gridOf(2+d.below(5), 2+d.below(5), 0, d.below(36001)-18000, 1+d.below(12))
	if d.below(4) == 0 {
		g.Step = 1 + d.below(3000)
	}
	g.South = d.below(18001-(g.Rows-1)*g.Step) - 9000
	return g
}

// rolledGridValues has missing and infinite numbers and noughts of both signs among others, more of them the more rare is below 100.
func rolledGridValues(d *dice, g impl.Grid, rare int64) []float64 {
	odd := []float64{none, payload, high, low, below0, 0, most, -most, least, 0.1}
	var values []float64
	for range g.Rows * g.Cols {
		x := float64(d.below(2001)-1000) / 10
		if k := d.below(rare); k < int64(len(odd)) {
			x = odd[k]
		}
		values = append(values, x)
	}
	return values
}

func TestAtBySteps(t *testing.T) {
	d := dice(1101)
	came := map[bool]int{}
	for range 4000 {
		g := rolledGrid(&d)
		values := rolledGridValues(&d, g, 15+d.below(3)*100)
		lat := g.South - 1 + d.below((g.Rows-1)*g.Step+3)
		lon := g.West - 1 + d.below((g.Cols-1)*g.Step+3)
		got, want := impl.At(g, values, lat, lon), atBySteps(g, values, lat, lon)
		if !sameFloat(got, want) {
			t.Fatalf("At(%v, %v, %d, %d) = %v and not %v", g, values, lat, lon, got, want)
		}
		came[got == got]++
	}
	if came[true] < 500 || came[false] < 500 {
		t.Error(came)
	}
}

// Promise 11: at the points of a grid there is the point's value.
func TestPointsHaveTheirValues(t *testing.T) {
	d := dice(1102)
	for range 300 {
		g := rolledGrid(&d)
		var values []float64
		for range g.Rows * g.Cols {
			values = append(values, float64(d.below(2000001)-1000000)/8)
		}
		pointsHave(t, g, values)
		// Nothing known is next to it: it stands as it is, infinite or missing.
		for i := range values {
			values[i] = []float64{none, high, low}[d.below(3)]
		}
		pointsHave(t, g, values)
	}
	values := make([]float64, 64*64)
	for i := range values {
		values[i] = float64(i)
	}
	pointsHave(t, gridOf(64, 64, -9000, 18000, 285), values)
}

func pointsHave(t *testing.T, g impl.Grid, values []float64) {
	t.Helper()
	for i := range g.Rows {
		for j := range g.Cols {
			if x := impl.At(g, values, g.South+i*g.Step, g.West+j*g.Step); !sameFloat(x, values[i*g.Cols+j]) {
				t.Fatalf("%v: at the point (%d, %d) there is %v and not %v", g, i, j, x, values[i*g.Cols+j])
			}
		}
	}
}

// With any of its corners unknown, one to four of them, a place has the value of the nearest.
func TestCornersThatAreMissing(t *testing.T) {
	g := gridOf(2, 2, 0, 0, 4)
	for _, odd := range []float64{none, payload, high, low} {
		for which := 1; which < 16; which++ {
			values := []float64{1, 2, 3, 4}
			for k := range values {
				if which>>k&1 == 1 {
					values[k] = odd
				}
			}
			for lat := range int64(5) {
				for lon := range int64(5) {
					// 0, 1 and 2 (halfway) are nearer to the first line, 3 and 4 to the other.
					want := values[lat/3*2+lon/3]
					if got := impl.At(g, values, lat, lon); !sameFloat(got, want) {
						t.Errorf("At(%v, %d, %d) = %v and not %v", values, lat, lon, got, want)
					}
				}
			}
		}
	}
}

func TestNearerLinesOfOddSteps(t *testing.T) {
	g := gridOf(3, 3, -3, -3, 3)
	values := []float64{1, 2, 3, 4, none, 6, 7, 8, 9}
	for _, c := range []struct {
		lat, lon int64
		want     float64
	}{
		{-3, -3, 1}, {-3, -2, 1}, {-3, -1, 2}, {-2, -3, 1}, {-1, -3, 4}, {-1, -2, 4}, {-2, -1, 2}, {-1, -1, none}, {0, 0, none}, {1, 1, none}, {2, 1, 8}, {2, 2, 9}, {1, 2, 6}, {3, 3, 9}, {3, -3, 7}, {2, -2, 7}, {-2, 2, 3},
	} {
		if got := impl.At(g, values, c.lat, c.lon); !sameFloat(got, c.want) {
			t.Errorf("At(%d, %d) = %v and not %v", c.lat, c.lon, got, c.want)
		}
	}
}

// What the operations give is told as it is, at a point, too: where a difference is infinite or was rounded, and the signs of noughts.
func TestGreatValuesAndNoughts(t *testing.T) {
	g := gridOf(2, 2, 0, 0, 2)
	for _, c := range []struct {
		v00, v01, v10, v11 float64
		lat, lon           int64
		want               float64
	}{
		{most, -most, 0, 0, 0, 1, none}, {most, -most, 0, 0, 1, 1, none}, {most, -most, 0, 0, 0, 0, none}, {0, 0, most, -most, 0, 1, none},
		{0, 0, most, -most, 1, 1, low}, {0, 0, -most, most, 1, 1, high}, {0, 0, -most, most, 2, 1, high}, {most, most, -most, -most, 1, 0, low}, {most, most, -most, -most, 2, 0, low}, {most, most, -most, -most, 0, 0, none},
		{most, most, most, most, 1, 1, most}, {-most, -most, -most, -most, 2, 2, -most}, {1e16, 1, 1e16, 1, 0, 2, 0}, {1e16, 1e16, 1, 1, 2, 0, 0}, {1e16, 1, 1e16, 1, 0, 0, 1e16},
		{below0, below0, below0, below0, 0, 0, 0}, {below0, -1, below0, -1, 0, 0, 0}, {below0, -1, -1, -1, 0, 0, below0}, {0, -1, -1, -1, 0, 0, 0}, {below0, 1, 1, 1, 0, 0, 0}, {0, below0, 0, below0, 0, 2, 0}, {below0, -1, -1, -1, 1, 0, -0.5},
		{least, 0, least, 0, 0, 1, least}, {0, least, 0, least, 0, 1, 0}, {0, 3 * least, 0, 3 * least, 0, 1, 2 * least},
	} {
		if got := impl.At(g, []float64{c.v00, c.v01, c.v10, c.v11}, c.lat, c.lon); !sameFloat(got, c.want) {
			t.Errorf("%v: At = %v", c, got)
		}
	}
}

func TestSmoothKnownFields(t *testing.T) {
	g := gridOf(3, 3, 0, 0, 1)
	for _, c := range []struct{ values, want []float64 }{
		{[]float64{1, 2, 3, 4, 5, 6, 7, 8, 9}, []float64{7 / 3.0, 11 / 4.0, 11 / 3.0, 17 / 4.0, 5, 23 / 4.0, 19 / 3.0, 29 / 4.0, 23 / 3.0}},
		{[]float64{1, none, 3, 4, 5, 6, 7, 8, 9}, []float64{5 / 2.0, none, 9 / 2.0, 17 / 4.0, 23 / 4.0, 23 / 4.0, 19 / 3.0, 29 / 4.0, 23 / 3.0}},
		{[]float64{1, 2, 3, 4, none, 6, 7, 8, 9}, []float64{7 / 3.0, 2, 11 / 3.0, 4, none, 6, 19 / 3.0, 8, 23 / 3.0}},
		// An infinite one isn't missing: it is left out, and stands among its own neighbours.
		{[]float64{1, 2, 3, 4, high, 6, 7, 8, 9}, []float64{7 / 3.0, 2, 11 / 3.0, 4, 5, 6, 19 / 3.0, 8, 23 / 3.0}},
		{[]float64{low, none, none, none, none, none, none, none, 9}, []float64{none, none, none, none, none, none, none, none, 9}},
		{times(9, high), times(9, none)}, {times(9, payload), times(9, none)}, {times(9, below0), times(9, 0.0)}, {times(9, most), times(9, high)},
	} {
		if got := impl.Smooth(g, c.values); !sameList(got, c.want) {
			t.Errorf("Smooth(%v) = %v and not %v", c.values, got, c.want)
		}
	}
	if got := impl.Smooth(gridOf(2, 2, 0, 0, 1), []float64{1, 2, 4, 8}); !sameList(got, []float64{7 / 3.0, 11 / 3.0, 13 / 3.0, 14 / 3.0}) {
		t.Error(got)
	}
}

// The order in which neighbours are added is seen where sums are rounded: itself, north, east, south, west.
func TestSmoothAddsInOrder(t *testing.T) {
	g := gridOf(3, 3, 0, 0, 1)
	five := []float64{1, 1e16, -1e16, 1, 1e16}
	permuted(five, 0, func(list []float64) {
		values := times(9, 0.0)
		values[4], values[7], values[5], values[1], values[3] = list[0], list[1], list[2], list[3], list[4]
		want := float64((((list[0]+list[1])+list[2])+list[3])+list[4]) / 5
		if got := impl.Smooth(g, values)[4]; !sameFloat(got, want) {
			t.Errorf("%v: %v and not %v", list, got, want)
		}
	})
}

// framed lays a field into one with a frame of missing points around it.
func framed(g impl.Grid, values []float64) [][]float64 {
	rows := [][]float64{times(int(g.Cols)+2, none)}
	for i := range g.Rows {
		row := append([]float64{none}, values[i*g.Cols:(i+1)*g.Cols]...)
		rows = append(rows, append(row, none))
	}
	return append(rows, times(int(g.Cols)+2, none))
}

func smoothBySteps(g impl.Grid, values []float64) []float64 {
	rows := framed(g, values)
	var list []float64
	for i := 1; i <= int(g.Rows); i++ {
		for j := 1; j <= int(g.Cols); j++ {
			sum, count := 0.0, 0
			for _, x := range []float64{rows[i][j], rows[i+1][j], rows[i][j+1], rows[i-1][j], rows[i][j-1]} {
				if x-x == 0 {
					sum, count = sum+x, count+1
				}
			}
			mean := sum / float64(count)
			if rows[i][j] != rows[i][j] || count == 0 {
				mean = none
			}
			list = append(list, mean)
		}
	}
	return list
}

func gradsBySteps(g impl.Grid, values []float64) []impl.Pair {
	rows := framed(g, values)
	var list []impl.Pair
	for i := 1; i <= int(g.Rows); i++ {
		for j := 1; j <= int(g.Cols); j++ {
			p := impl.Pair{Re: (rows[i][j+1] - rows[i][j-1]) / 2, Im: (rows[i+1][j] - rows[i-1][j]) / 2}
			for _, x := range []float64{rows[i+1][j], rows[i][j+1], rows[i-1][j], rows[i][j-1]} {
				if x != x {
					p = impl.Pair{Re: none, Im: none}
				}
			}
			list = append(list, p)
		}
	}
	return list
}

func TestFieldsBySteps(t *testing.T) {
	d := dice(1103)
	for range 1500 {
		g := rolledGrid(&d)
		values := rolledGridValues(&d, g, 15+d.below(3)*100)
		if got, want := impl.Smooth(g, values), smoothBySteps(g, values); !sameList(got, want) {
			t.Fatalf("Smooth(%v, %v) = %v and not %v", g, values, got, want)
		}
		if got, want := impl.Grads(g, values), gradsBySteps(g, values); !slices.EqualFunc(got, want, samePair) {
			t.Fatalf("Grads(%v, %v) = %v and not %v", g, values, got, want)
		}
	}
}

func TestGreatestFields(t *testing.T) {
	g := gridOf(64, 64, -9000, -18000, 285)
	d := dice(1104)
	values := rolledGridValues(&d, g, 100)
	if got, want := impl.Smooth(g, values), smoothBySteps(g, values); len(got) != 4096 || !sameList(got, want) {
		t.Error("Smooth of 64 rows and columns")
	}
	if got, want := impl.Grads(g, values), gradsBySteps(g, values); len(got) != 4096 || !slices.EqualFunc(got, want, samePair) {
		t.Error("Grads of 64 rows and columns")
	}
}

func pairAt(re, im float64) impl.Pair {
	return impl.Pair{Re: re, Im: im}
}

func TestGradsKnownFields(t *testing.T) {
	g := gridOf(3, 4, 0, 0, 7)
	values := []float64{
		1, 2, 4, 8,
		3, 9, 5, 6,
		7, 12, 2.5, 0,
	}
	gone := pairAt(none, none)
	row := times(4, gone)
	want := slices.Concat(row, []impl.Pair{gone, pairAt(1, 5), pairAt(-1.5, -0.75), gone}, row)
	if got := impl.Grads(g, values); !slices.EqualFunc(got, want, samePair) {
		t.Error(got)
	}
	// Each of the four that goes missing takes both parts; the point itself does not, nor does what stands at a corner.
	for i, x := range values {
		values[i] = none
		got := impl.Grads(g, values)
		values[i] = x
		for k, around := range map[int][]int{5: {9, 6, 1, 4}, 6: {10, 7, 2, 5}} {
			wanted := want[k]
			if slices.Contains(around, i) {
				wanted = gone
			}
			if !samePair(got[k], wanted) {
				t.Errorf("%d is missing: %d has %v", i, k, got[k])
			}
		}
	}
	for _, flat := range []impl.Grid{gridOf(2, 2, 0, 0, 1), gridOf(2, 6, 0, 0, 1), gridOf(6, 2, 0, 0, 1)} {
		count := int(flat.Rows * flat.Cols)
		if got := impl.Grads(flat, times(count, 3.0)); !slices.EqualFunc(got, times(count, gone), samePair) {
			t.Error(flat, got)
		}
	}
}

func TestGradsOfInfiniteOnes(t *testing.T) {
	g := gridOf(3, 3, 0, 0, 1)
	for _, c := range []struct{ north, east, south, west, re, im float64 }{
		{1, high, 0, 2, high, 0.5}, {1, low, 0, 2, low, 0.5}, {1, high, 0, high, none, 0.5}, {low, 1, low, 0, 0.5, none}, {high, high, low, low, high, high}, {most, -most, -most, most, low, high}, {0, below0, below0, 0, below0, 0}, {below0, 0, 0, below0, 0, below0}, {least, 3 * least, 0, 0, 2 * least, 0}, {none, high, 0, 0, none, none},
	} {
		got := impl.Grads(g, []float64{none, c.south, none, c.west, none, c.east, none, c.north, none})[4]
		if !samePair(got, pairAt(c.re, c.im)) {
			t.Errorf("%v: %v", c, got)
		}
	}
}

func remaps(t *testing.T, edges, amounts, to []int64, want ...int64) {
	t.Helper()
	if got, ok := impl.Remap(edges, amounts, to); !ok || !slices.Equal(got, want) {
		t.Errorf("Remap(%v, %v, %v) = %v, %t and not %v", edges, amounts, to, got, ok, want)
	}
}

func refusesToRemap(t *testing.T, what string, edges, amounts, to []int64) {
	t.Helper()
	if got, ok := impl.Remap(edges, amounts, to); ok || len(got) != 0 {
		t.Errorf("%s: Remap(%.40v, %.40v, %.40v) = %v, %t", what, edges, amounts, to, got, ok)
	}
}

func TestRemapKnownEdges(t *testing.T) {
	edges, amounts := []int64{0, 10, 20}, []int64{7, 3}
	remaps(t, edges, amounts, []int64{0, 10, 20}, 7, 3)
	remaps(t, edges, amounts, []int64{0, 20}, 10)
	remaps(t, edges, amounts, []int64{-1000000, 1000000}, 10)
	remaps(t, edges, amounts, []int64{-9, -5}, 0)
	remaps(t, edges, amounts, []int64{-9, 0}, 0)
	remaps(t, edges, amounts, []int64{20, 21, 30}, 0, 0)
	remaps(t, edges, amounts, []int64{-5, 0, 10, 20, 25}, 0, 7, 3, 0)
	// Within one amount: below 2 lies 1 (of 1.4), below 5 lie 3 (of 3.5), below 9 lie 6 (of 6.3).
	remaps(t, edges, amounts, []int64{2, 5, 9}, 2, 3)
	remaps(t, edges, amounts, []int64{0, 2, 5, 9, 10}, 1, 2, 3, 1)
	// Below 9 lie 6, below 11 7 (and 0.3), below 17 7 and 2 (of 2.1).
	remaps(t, edges, amounts, []int64{9, 11, 17, 20}, 1, 2, 1)
	remaps(t, []int64{-3, 0, 1}, []int64{5, 0}, []int64{-2, -1, 0, 1}, 2, 2, 0)
	remaps(t, []int64{0, 2}, []int64{1}, []int64{0, 1, 2}, 0, 1)
	remaps(t, []int64{-1000000, 1000000}, []int64{1000000000000}, []int64{-1000000, -999999, 0, 999999, 1000000}, 500000, 499999500000, 499999500000, 500000)
	remaps(t, []int64{-1000000, 1000000}, []int64{999999999999}, []int64{-1000000, 0, 999999, 1000000}, 499999999999, 499999500000, 500000)
}

func riseFrom(first int64, count int) []int64 {
	var list []int64
	for i := range count {
		list = append(list, first+int64(i))
	}
	return list
}

func TestRemapsEdges(t *testing.T) {
	mild, one := []int64{0, 10}, []int64{5}
	for _, count := range []int{2, 257} {
		amounts := times(count-1, int64(1000000000000))
		remaps(t, riseFrom(1000000-int64(count)+1, count), amounts, riseFrom(-1000000, count), times(count-1, int64(0))...)
		remaps(t, riseFrom(-1000000, count), amounts, riseFrom(-1000000, count), amounts...)
		remaps(t, riseFrom(0, count), amounts, []int64{-1, 1000}, int64(count-1)*1000000000000)
		remaps(t, mild, one, riseFrom(10, count), times(count-1, int64(0))...)
	}
	for name, edges := range map[string][]int64{
		"none": nil, "one": {0}, "258": riseFrom(0, 258), "two the same": {0, 5, 5, 10}, "the first two the same": {0, 0}, "falls": {10, 0}, "falls at the end": {0, 10, 9}, "one beyond the least": {-1000001, 0}, "one beyond the greatest": {0, 1000001}, "all beyond": {1000001, 1000002}, "far apart": {math.MinInt64, math.MaxInt64}, "greatest": {0, math.MaxInt64}, "least": {math.MinInt64, 0},
	} {
		refusesToRemap(t, name, edges, times(max(0, len(edges)-1), int64(1)), mild)
		refusesToRemap(t, name, mild, one, edges)
	}
}

func TestRemapsAmounts(t *testing.T) {
	mild, edges := []int64{0, 10}, []int64{0, 5, 10}
	for _, amounts := range [][]int64{nil, {1}, {1, 2, 3}, {-1, 0}, {0, -1}, {1000000000001, 0}, {0, 1000000000001}, {math.MinInt64, 0}, {0, math.MaxInt64}} {
		refusesToRemap(t, "amounts", edges, amounts, mild)
	}
	refusesToRemap(t, "no amount", mild, nil, mild)
	remaps(t, edges, []int64{0, 0}, mild, 0)
	remaps(t, edges, []int64{0, 1000000000000}, mild, 1000000000000)
	remaps(t, edges, []int64{1000000000000, 0}, mild, 1000000000000)
}

// belowBySearch finds where x lies, and works with numbers that have no end.
func belowBySearch(edges, amounts []int64, x int64) int64 {
	whole := sort.Search(len(amounts), func(i int) bool { return edges[i+1] > x })
	total := new(big.Int)
	for _, n := range amounts[:whole] {
		total.Add(total, big.NewInt(n))
	}
	if whole < len(amounts) && edges[whole] <= x {
		part := new(big.Int).Mul(big.NewInt(amounts[whole]), big.NewInt(x-edges[whole]))
		total.Add(total, part.Div(part, big.NewInt(edges[whole+1]-edges[whole])))
	}
	return total.Int64()
}

func rolledEdges(d *dice, count, widest int64) []int64 {
	x := d.below(3*widest) - 2*widest
	var list []int64
	for range count {
		list = append(list, x)
		x += 1 + d.below(widest)
	}
	return list
}

func rolledAmounts(d *dice, count int) []int64 {
	var list []int64
	for range count {
		list = append(list, d.below([]int64{1, 20, 1000, 1000000000001}[d.below(4)]))
	}
	return list
}

// Promise 11: amounts that come to other edges are kept.
func TestAmountsAreKept(t *testing.T) {
	d := dice(1105)
	for range 3000 {
		widest := []int64{3, 50, 7000}[d.below(3)]
		edges, to := rolledEdges(&d, 2+d.below(30), widest), rolledEdges(&d, 2+d.below(30), widest)
		amounts := rolledAmounts(&d, len(edges)-1)
		var want []int64
		for i := range len(to) - 1 {
			want = append(want, belowBySearch(edges, amounts, to[i+1])-belowBySearch(edges, amounts, to[i]))
		}
		remaps(t, edges, amounts, to, want...)
		remaps(t, edges, amounts, edges, amounts...)
		wide := slices.Concat([]int64{min(edges[0], to[0]) - 1}, to, []int64{max(edges[len(edges)-1], to[len(to)-1]) + 1})
		moved, ok := impl.Remap(edges, amounts, wide)
		if !ok || totalOf(moved) != totalOf(amounts) || slices.Min(moved) < 0 {
			t.Fatalf("Remap(%v, %v, %v) = %v: %d have become %d", edges, amounts, wide, moved, totalOf(amounts), totalOf(moved))
		}
		// The edges that were, and others among them, so that all may be found again.
		finer := slices.Concat(edges, slices.DeleteFunc(slices.Clone(to), func(x int64) bool { return x < edges[0] || x > edges[len(edges)-1] }))
		slices.Sort(finer)
		finer = slices.Compact(finer)
		parts, _ := impl.Remap(edges, amounts, finer)
		remaps(t, finer, parts, edges, amounts...)
	}
}

func totalOf(list []int64) int64 {
	total := int64(0)
	for _, n := range list {
		total += n
	}
	return total
}
