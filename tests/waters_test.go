package tests

import (
	"math"
	"slices"
	"testing"

	"loop.example/g00051/impl"
)

func TestWaterNumbers(t *testing.T) {
	if impl.MaxCells != 576 || impl.MaxWater != 1000000000000 {
		t.Error(impl.MaxCells, impl.MaxWater)
	}
}

func TestWrongBoxesDoNotDrain(t *testing.T) {
	for _, b := range wrongBoxes() {
		if heights, next := impl.Drain(b); len(heights) != 0 || len(next) != 0 {
			t.Error(b.Rows, b.Cols, len(b.Cells), heights, next)
		}
	}
}

func drains(t *testing.T, b impl.Box, heights, next []int64) {
	t.Helper()
	gotHeights, gotNext := impl.Drain(b)
	if !slices.Equal(gotHeights, heights) || !slices.Equal(gotNext, next) {
		t.Errorf("Drain(%v) = %v, %v and not %v, %v", b, gotHeights, gotNext, heights, next)
	}
}

// A box whose cells all lie at the edge drains as it stands.
func TestEdgesDrainIntoTheSea(t *testing.T) {
	for _, b := range []impl.Box{
		boxOf(1, 1, 0), boxOf(1, 1, 1000000000), boxOf(1, 1, -1000000000), boxOf(1, 5, 3, 1, 4, 1, 5), boxOf(5, 1, 3, 1, 4, 1, 5), boxOf(2, 3, 9, 0, 9, 9, -5, 9), boxOf(3, 2, 9, 9, 0, -5, 9, 9),
		boxOf(1, 24, riseFrom(-9, 24)...), boxOf(24, 1, riseFrom(-9, 24)...), boxOf(2, 24, riseFrom(-9, 48)...), boxOf(24, 2, riseFrom(-9, 48)...),
	} {
		drains(t, b, b.Cells, times(len(b.Cells), int64(-1)))
	}
}

// centred is a box of three rows and columns with one cell amid the edge, which drains into another (or -1 when it has just its own height).
func centred(t *testing.T, cells []int64, height, next int64) {
	t.Helper()
	heights, ways := slices.Clone(cells), times(9, int64(-1))
	heights[4], ways[4] = height, next
	drains(t, boxOf(3, 3, cells...), heights, ways)
}

func TestOneCellAmidTheEdge(t *testing.T) {
	centred(t, []int64{5, 5, 5, 5, 1, 3, 5, 5, 5}, 3, 5)
	centred(t, []int64{5, 5, 5, 5, 1, 5, 5, 3, 5}, 3, 7)
	centred(t, []int64{5, 3, 5, 5, 1, 5, 5, 5, 5}, 3, 1)
	centred(t, []int64{5, 5, 5, 3, 1, 5, 5, 5, 5}, 3, 3)
	centred(t, []int64{5, 5, 5, 3, 3, 5, 5, 5, 5}, 3, 3)
	centred(t, []int64{5, 5, 5, 3, 4, 5, 5, 5, 5}, 4, 3)
	centred(t, []int64{5, 5, 5, 3, 9, 5, 5, 5, 5}, 9, 3)
	// No way leads by a corner.
	centred(t, []int64{0, 5, 0, 5, 1, 4, 0, 5, 0}, 4, 5)
	// Of equal heights the cell with the least number leaves first, and a lower one ahead of it.
	centred(t, []int64{5, 2, 5, 2, 0, 2, 5, 2, 5}, 2, 1)
	centred(t, []int64{5, 5, 5, 2, 0, 2, 5, 2, 5}, 2, 3)
	centred(t, []int64{5, 5, 5, 5, 0, 2, 5, 2, 5}, 2, 5)
	centred(t, []int64{5, 2, 5, 2, 0, 2, 5, 1, 5}, 1, 7)
	centred(t, []int64{5, 2, 5, 2, 0, 1, 5, 1, 5}, 1, 5)
	centred(t, []int64{7, 7, 7, 7, 7, 7, 7, 7, 7}, 7, 1)
	centred(t, []int64{-2, -1, -2, -1, -9, -3, -2, -1, -2}, -3, 5)
	const top = 1000000000
	centred(t, []int64{top, top, top, top, -top, top, top, top, top}, top, 1)
	centred(t, []int64{-top, -top, -top, -top, top, -top, -top, -top, -top}, top, 1)
	centred(t, []int64{top, top, top, top, -top, -top, top, top, top}, -top, 5)
}

// waysAmid is next of a box: -1, but for the cells that are told with the cell into which they drain.
func waysAmid(count int, pairs ...[2]int64) []int64 {
	next := times(count, int64(-1))
	for _, p := range pairs {
		next[p[0]] = p[1]
	}
	return next
}

// On a plateau the cells leave by their numbers alone: one that came into the front later, too, ahead of those that stood there from the first.
func TestPlateaus(t *testing.T) {
	drains(t, boxOf(3, 4, times(12, int64(5))...), times(12, int64(5)), waysAmid(12, [2]int64{5, 1}, [2]int64{6, 2}))
	drains(t, boxOf(5, 5, times(25, int64(0))...), times(25, int64(0)), waysAmid(25, [2]int64{6, 1}, [2]int64{7, 2}, [2]int64{8, 3}, [2]int64{11, 6}, [2]int64{12, 7}, [2]int64{13, 8}, [2]int64{16, 11}, [2]int64{17, 12}, [2]int64{18, 13}))
	// A bowl with one way out is filled to a plateau, and drains along it.
	bowl := boxOf(4, 5,
		9, 9, 9, 9, 9,
		9, 1, 2, 3, 9,
		9, 4, 0, 1, 5,
		9, 9, 9, 9, 9)
	drains(t, bowl, []int64{9, 9, 9, 9, 9, 9, 5, 5, 5, 9, 9, 5, 5, 5, 5, 9, 9, 9, 9, 9},
		waysAmid(20, [2]int64{13, 14}, [2]int64{8, 13}, [2]int64{12, 13}, [2]int64{7, 8}, [2]int64{6, 7}, [2]int64{11, 6}))
}

func TestBowlsWithinBowls(t *testing.T) {
	b := boxOf(7, 7,
		9, 9, 9, 4, 9, 9, 9,
		9, 1, 1, 1, 1, 1, 9,
		9, 1, 6, 7, 7, 1, 9,
		9, 1, 6, 0, 7, 1, 9,
		9, 1, 7, 7, 7, 1, 9,
		9, 1, 1, 1, 1, 1, 9,
		9, 9, 9, 9, 9, 9, 9)
	heights := []int64{
		9, 9, 9, 4, 9, 9, 9,
		9, 4, 4, 4, 4, 4, 9,
		9, 4, 6, 7, 7, 4, 9,
		9, 4, 6, 6, 7, 4, 9,
		9, 4, 7, 7, 7, 4, 9,
		9, 4, 4, 4, 4, 4, 9,
		9, 9, 9, 9, 9, 9, 9}
	drains(t, b, heights, []int64{
		-1, -1, -1, -1, -1, -1, -1,
		-1, 9, 10, 3, 10, 11, -1,
		-1, 8, 9, 10, 11, 12, -1,
		-1, 15, 22, 23, 26, 19, -1,
		-1, 22, 29, 38, 33, 26, -1,
		-1, 29, 36, 37, 38, 33, -1,
		-1, -1, -1, -1, -1, -1, -1})
	if c, ok := impl.Catch(heightsNext(b)); !ok || c[3] != 26 || c[10] != 25 || c[23] != 2 || c[24] != 1 {
		t.Error(c, ok)
	}
}

func heightsNext(b impl.Box) []int64 {
	_, next := impl.Drain(b)
	return next
}

// beside are the cells that share a side with one.
func beside(b impl.Box, cell int64) []int64 {
	var list []int64
	i, j := cell/b.Cols, cell%b.Cols
	for _, at := range [][2]int64{{i + 1, j}, {i, j + 1}, {i - 1, j}, {i, j - 1}} {
		if at[0] >= 0 && at[0] < b.Rows && at[1] >= 0 && at[1] < b.Cols {
			list = append(list, at[0]*b.Cols+at[1])
		}
	}
	return list
}

func byTheSea(b impl.Box, cell int64) bool {
	return len(beside(b, cell)) < 4
}

// drainBySteps goes by the chapter's words, with a front that is looked through from its beginning each time.
func drainBySteps(b impl.Box) (heights, next []int64) {
	const never, inFront, left = 0, 1, 2
	heights, next = slices.Clone(b.Cells), times(len(b.Cells), int64(-1))
	states := make([]int, len(b.Cells))
	for cell := range states {
		if byTheSea(b, int64(cell)) {
			states[cell] = inFront
		}
	}
	for {
		leaves := -1
		for cell, state := range states {
			if state == inFront && (leaves < 0 || heights[cell] < heights[leaves]) {
				leaves = cell
			}
		}
		if leaves < 0 {
			return heights, next
		}
		states[leaves] = left
		for _, cell := range beside(b, int64(leaves)) {
			if states[cell] == never {
				states[cell], next[cell], heights[cell] = inFront, int64(leaves), max(b.Cells[cell], heights[leaves])
			}
		}
	}
}

// levelled has of each cell the least height to which the water must rise to come to the sea: no way is looked for.
func levelled(b impl.Box) []int64 {
	levels := times(len(b.Cells), int64(math.MaxInt64))
	for changed := true; changed; {
		changed = false
		for cell, height := range b.Cells {
			lowest := int64(math.MinInt64)
			if !byTheSea(b, int64(cell)) {
				lowest = math.MaxInt64
				for _, k := range beside(b, int64(cell)) {
					lowest = min(lowest, levels[k])
				}
			}
			if level := max(height, lowest); level < levels[cell] {
				levels[cell], changed = level, true
			}
		}
	}
	return levels
}

// keepsThirteen holds promise 13 of a box: every cell's water comes to one outlet, at the sea, and never upwards.
func keepsThirteen(t *testing.T, b impl.Box) {
	t.Helper()
	heights, next := impl.Drain(b)
	wantHeights, wantNext := drainBySteps(b)
	if !slices.Equal(heights, wantHeights) || !slices.Equal(next, wantNext) {
		t.Fatalf("Drain(%v) = %v, %v and not %v, %v", b, heights, next, wantHeights, wantNext)
	}
	if levels := levelled(b); !slices.Equal(heights, levels) {
		t.Fatalf("Drain(%v) fills to %v and not to %v", b, heights, levels)
	}
	counts, ok := impl.Catch(next)
	if !ok || len(counts) != len(next) {
		t.Fatalf("Catch(%v) = %v, %t", next, counts, ok)
	}
	through, out := times(len(next), int64(0)), int64(0)
	for cell := range int64(len(next)) {
		at := cell
		for ; next[at] >= 0; at = next[at] {
			through[at]++
			if heights[next[at]] > heights[at] || !slices.Contains(beside(b, at), next[at]) || byTheSea(b, at) {
				t.Fatalf("Drain(%v): water goes from %d to %d", b, at, next[at])
			}
		}
		through[at]++
		if !byTheSea(b, at) || impl.OutletOf(next, cell) != at {
			t.Fatalf("Drain(%v): the water of %d comes to %d, OutletOf says %d", b, cell, at, impl.OutletOf(next, cell))
		}
		if at == cell {
			out += counts[cell]
		}
	}
	if !slices.Equal(counts, through) || out != int64(len(next)) {
		t.Fatalf("Catch(%v) = %v and not %v", next, counts, through)
	}
}

// Promise 13, of all the boxes of a few cells and heights that there are.
func TestAllSmallWaters(t *testing.T) {
	for _, size := range [][3]int64{{1, 1, 3}, {1, 4, 3}, {4, 1, 3}, {2, 2, 3}, {3, 3, 3}, {3, 4, 2}, {4, 3, 2}, {4, 4, 2}} {
		count, all := size[0]*size[1], int64(1)
		for range count {
			all *= size[2]
		}
		for which := range all {
			b := boxOf(size[0], size[1])
			for range count {
				b.Cells = append(b.Cells, which%size[2])
				which /= size[2]
			}
			keepsThirteen(t, b)
		}
	}
}

func rolledHeights(d *dice, most int64) impl.Box {
	b := boxOf(1+d.below(most), 1+d.below(most))
	span := []int64{2, 3, 10, 2000000001}[d.below(4)]
	for range b.Rows * b.Cols {
		b.Cells = append(b.Cells, d.below(span)-span/2)
	}
	return b
}

func TestRolledWaters(t *testing.T) {
	d := dice(1301)
	for range 200 {
		keepsThirteen(t, rolledHeights(&d, 24))
	}
	for range 3000 {
		keepsThirteen(t, rolledHeights(&d, 7))
	}
}

// spiralBox is a bowl whose one way, of cells next to one another, goes from the sea round and round to its midst.
func spiralBox() (b impl.Box, way []int64) {
	b = boxOf(24, 24, times(576, int64(1000000000))...)
	dig := func(cell int64) {
		b.Cells[cell] = -int64(len(way))
		way = append(way, cell)
	}
	dig(24)
	at, step, turns := int64(24), int64(1), []int64{24, -1, -24, 1}
	open := func(cell int64) bool {
		if byTheSea(b, cell) || b.Cells[cell] <= 0 {
			return false
		}
		dug := 0
		for _, k := range beside(b, cell) {
			if b.Cells[k] <= 0 {
				dug++
			}
		}
		return dug <= 1
	}
	for {
		if !open(at + step) {
			step, turns = turns[0], append(turns[1:], turns[0])
			if !open(at + step) {
				return b, way
			}
		}
		at += step
		dig(at)
	}
}

func TestSpiral(t *testing.T) {
	b, way := spiralBox()
	if len(way) < 200 {
		t.Fatal(len(way))
	}
	keepsThirteen(t, b)
	heights, next := impl.Drain(b)
	for k, cell := range way {
		if heights[cell] != 0 || k > 0 && next[cell] != way[k-1] {
			t.Fatalf("the water of %d stands at %d and goes to %d", cell, heights[cell], next[cell])
		}
	}
}

func TestGreatestWaters(t *testing.T) {
	for _, height := range []int64{-1000000000, 0, 1000000000} {
		keepsThirteen(t, boxOf(24, 24, times(576, height)...))
	}
	falls, rises := riseFrom(0, 576), riseFrom(0, 576)
	slices.Reverse(falls)
	keepsThirteen(t, boxOf(24, 24, falls...))
	keepsThirteen(t, boxOf(24, 24, rises...))
}

func catches(t *testing.T, next []int64, want ...int64) {
	t.Helper()
	if got, ok := impl.Catch(next); !ok || !slices.Equal(got, want) {
		t.Errorf("Catch(%v) = %v, %t and not %v", next, got, ok, want)
	}
}

// refusesNext asks all that hangs on Catch.
func refusesNext(t *testing.T, next []int64) {
	t.Helper()
	if counts, ok := impl.Catch(next); ok || len(counts) != 0 {
		t.Errorf("Catch(%v) = %v, %t", next, counts, ok)
	}
	for cell := int64(-1); cell <= int64(len(next)); cell++ {
		if outlet := impl.OutletOf(next, cell); outlet != -1 {
			t.Errorf("OutletOf(%v, %d) = %d", next, cell, outlet)
		}
	}
	refusesStep(t, next, impl.Book{Water: times(len(next), int64(0))}, times(len(next), int64(0)))
}

func TestCatch(t *testing.T) {
	catches(t, nil)
	catches(t, []int64{}, []int64{}...)
	catches(t, []int64{-1}, 1)
	catches(t, []int64{-1, -1, -1}, 1, 1, 1)
	catches(t, []int64{1, -1}, 1, 2)
	catches(t, []int64{-1, 0}, 2, 1)
	catches(t, []int64{1, 2, 3, -1}, 1, 2, 3, 4)
	catches(t, []int64{-1, 0, 1, 2}, 4, 3, 2, 1)
	catches(t, []int64{2, 2, 4, 4, -1, 4}, 1, 1, 3, 1, 6, 1)
	catches(t, []int64{-1, 0, 0, 4, -1, 1, 1}, 5, 3, 1, 1, 2, 1, 1)
	catches(t, times(576, int64(-1)), times(576, int64(1))...)
	// A way through all cells, up, down, and to and fro.
	up, down := append(riseFrom(1, 575), -1), riseFrom(-1, 576)
	fell := riseFrom(1, 576)
	slices.Reverse(fell)
	catches(t, up, riseFrom(1, 576)...)
	catches(t, down, fell...)
	// 0, 575, 1, 574, .. 288: each one but the last goes to the next of this row.
	var jumps, want []int64
	for k := range int64(576) {
		if k < 288 {
			jumps, want = append(jumps, 575-k), append(want, 2*k+1)
		} else {
			jumps, want = append(jumps, 576-k), append(want, 2*(576-k))
		}
	}
	jumps[288] = -1
	catches(t, jumps, want...)
	if impl.OutletOf(up, 0) != 575 || impl.OutletOf(down, 575) != 0 || impl.OutletOf(jumps, 0) != 288 || impl.OutletOf(up, 575) != 575 {
		t.Error("outlets", impl.OutletOf(up, 0), impl.OutletOf(down, 575), impl.OutletOf(jumps, 0), impl.OutletOf(up, 575))
	}
}

func wrongNexts() [][]int64 {
	list := [][]int64{
		{-2}, {1}, {0}, {2}, {math.MinInt64}, {math.MaxInt64}, {-1, -2}, {-2, -1}, {-1, 2}, {2, -1}, {-1, 3}, {1, 2}, {-1, math.MinInt64}, {math.MaxInt64, -1}, {-1, 1 << 32}, {-1, 1<<32 + 1},
		{-1, 1}, {1, 0}, {1, 0, -1}, {-1, 2, 1}, {1, 2, 0}, {1, 2, 0, -1}, {1, 2, 1, -1}, {-1, 0, 2}, {-1, 0, 1, 4, 3}, {3, 3, 3, 4, 3},
		times(577, int64(-1)), riseFrom(-1, 577), append(riseFrom(1, 575), 0), append(riseFrom(1, 575), 575), append(riseFrom(1, 575), 576), append(riseFrom(1, 575), -2), append(times(575, int64(-1)), 575),
	}
	return append(list, times(578, int64(-1)), times(100000, int64(-1)))
}

func TestWrongNexts(t *testing.T) {
	for _, next := range wrongNexts() {
		if len(next) > 1000 {
			if counts, ok := impl.Catch(next); ok || len(counts) != 0 || impl.OutletOf(next, 0) != -1 {
				t.Error("Catch takes", len(next))
			}
			continue
		}
		refusesNext(t, next)
	}
}

// catchBySteps goes the way of each cell; a way that is as long as there are cells, and has not ended, goes round.
func catchBySteps(next []int64) (counts, outlets []int64, ok bool) {
	count := int64(len(next))
	for _, to := range next {
		if to < -1 || to >= count {
			return nil, nil, false
		}
	}
	counts = times(len(next), int64(0))
	for cell := range count {
		at, steps := cell, int64(0)
		for ; next[at] >= 0 && steps < count; steps++ {
			counts[at]++
			at = next[at]
		}
		if steps == count {
			return nil, nil, false
		}
		counts[at]++
		outlets = append(outlets, at)
	}
	return counts, outlets, true
}

func checkNext(t *testing.T, next []int64) bool {
	t.Helper()
	counts, outlets, ok := catchBySteps(next)
	if !ok {
		refusesNext(t, next)
		return false
	}
	catches(t, next, counts...)
	for cell, want := range outlets {
		if got := impl.OutletOf(next, int64(cell)); got != want {
			t.Fatalf("OutletOf(%v, %d) = %d and not %d", next, cell, got, want)
		}
	}
	for _, cell := range []int64{-1, -2, int64(len(next)), int64(len(next)) + 1, math.MinInt64, math.MaxInt64, 1 << 32} {
		if got := impl.OutletOf(next, cell); got != -1 {
			t.Fatalf("OutletOf(%v, %d) = %d, and there is no such cell", next, cell, got)
		}
	}
	return true
}

// All lists of up to five numbers, from -2 to one above their length.
func TestAllSmallNexts(t *testing.T) {
	for count := range int64(6) {
		all, right := int64(1), 0
		for range count {
			all *= count + 3
		}
		for which := range all {
			var next []int64
			for range count {
				next = append(next, which%(count+3)-2)
				which /= count + 3
			}
			if checkNext(t, next) {
				right++
			}
		}
		// As many as there are forests of rooted trees with names.
		if want := []int{1, 1, 3, 16, 125, 1296}[count]; right != want {
			t.Errorf("of %d cells %d lists are taken and not %d", count, right, want)
		}
	}
}

func rolledNext(d *dice, count int64) []int64 {
	next := times(int(count), int64(-1))
	order := shuffled(d, riseFrom(0, int(count)))
	roots := 1 + d.below(4)
	for k, cell := range order {
		if k > 0 && d.below(9) >= roots-1 {
			next[cell] = order[max(0, int64(k)-1-d.below(int64(k))%(1+d.below(6)))]
		}
	}
	return next
}

func TestRolledNexts(t *testing.T) {
	d := dice(1302)
	taken := map[int64]int{}
	for range 600 {
		next := rolledNext(&d, 1+d.below(60))
		if d.below(3) == 0 {
			next[d.below(int64(len(next)))] = d.below(int64(len(next))+3) - 2
		}
		if checkNext(t, next) {
			taken[1]++
		} else {
			taken[0]++
		}
	}
	cameOften(t, taken, 0, 1)
	for range 5 {
		checkNext(t, rolledNext(&d, 576))
	}
}

func bookOf(out, rained int64, water ...int64) impl.Book {
	return impl.Book{Water: water, Out: out, Rained: rained}
}

func sameBook(a, b impl.Book) bool {
	return slices.Equal(a.Water, b.Water) && a.Out == b.Out && a.Rained == b.Rained
}

func flows(t *testing.T, next []int64, book impl.Book, rain []int64, want impl.Book) {
	t.Helper()
	if got, ok := impl.FlowStep(next, book, rain); !ok || !sameBook(got, want) {
		t.Errorf("FlowStep(%v, %v, %v) = %v, %t and not %v", next, book, rain, got, ok, want)
	}
}

func refusesStep(t *testing.T, next []int64, book impl.Book, rain []int64) {
	t.Helper()
	if got, ok := impl.FlowStep(next, book, rain); ok || !sameBook(got, impl.Book{}) {
		t.Errorf("FlowStep(%v, %v, %v) = %v, %t", next, book, rain, got, ok)
	}
}

func TestFlowStep(t *testing.T) {
	flows(t, nil, bookOf(0, 0), nil, bookOf(0, 0))
	flows(t, nil, bookOf(7, 7), nil, bookOf(7, 7))
	flows(t, nil, bookOf(1000000000000, 1000000000000), []int64{}, bookOf(1000000000000, 1000000000000))
	// Halves, rounded up.
	for has, stays := range []int64{0, 0, 1, 1, 2, 2, 3} {
		had := int64(has)
		flows(t, []int64{-1}, bookOf(0, had, had), []int64{0}, bookOf(had-stays, had, stays))
		flows(t, []int64{-1}, bookOf(0, 0, 0), []int64{had}, bookOf(had-stays, had, stays))
		flows(t, []int64{1, -1}, bookOf(3, 3+had, had, 0), []int64{0, 0}, bookOf(3, 3+had, stays, had-stays))
		flows(t, []int64{-1, 0}, bookOf(3, 3+had, 0, had), []int64{0, 0}, bookOf(3, 3+had, had-stays, stays))
	}
	// What falls flows at once, and what stood there with it: 1 and 2 are 3.
	flows(t, []int64{-1}, bookOf(5, 6, 1), []int64{2}, bookOf(7, 8, 1))
	flows(t, []int64{1, -1}, bookOf(0, 0, 0, 0), []int64{5, 2}, bookOf(1, 7, 2, 4))
	flows(t, []int64{1, -1}, bookOf(1, 7, 2, 4), []int64{0, 0}, bookOf(3, 7, 1, 3))
	// In a row all flow at once: what a cell gets, it keeps for now.
	flows(t, []int64{1, 2, 3, -1}, bookOf(0, 8, 8, 0, 0, 0), times(4, int64(0)), bookOf(0, 8, 4, 4, 0, 0))
	flows(t, []int64{-1, 0, 1, 2}, bookOf(0, 8, 0, 0, 0, 8), times(4, int64(0)), bookOf(0, 8, 0, 0, 4, 4))
	flows(t, []int64{1, 2, 3, -1}, bookOf(0, 10, 1, 2, 3, 4), times(4, int64(0)), bookOf(2, 10, 0, 2, 2, 4))
	flows(t, []int64{-1, 0, 1, 2}, bookOf(0, 10, 1, 2, 3, 4), times(4, int64(0)), bookOf(1, 10, 1, 3, 3, 2))
	// Several flow into one, and several into the sea.
	flows(t, []int64{3, 3, 3, -1, -1}, bookOf(0, 0, 0, 0, 0, 0, 0), []int64{1, 2, 3, 4, 5}, bookOf(5, 15, 0, 1, 1, 6, 2))
}

func TestFlowAtItsLimits(t *testing.T) {
	const most = 1000000000000
	two, dry := []int64{1, -1}, []int64{0, 0}
	flows(t, two, bookOf(0, most, most, 0), dry, bookOf(0, most, most/2, most/2))
	flows(t, two, bookOf(0, most, 0, most), dry, bookOf(most/2, most, 0, most/2))
	flows(t, two, bookOf(most, most, 0, 0), dry, bookOf(most, most, 0, 0))
	flows(t, two, bookOf(0, 0, 0, 0), []int64{most, 0}, bookOf(0, most, most/2, most/2))
	flows(t, two, bookOf(0, 0, 0, 0), []int64{0, most}, bookOf(most/2, most, 0, most/2))
	flows(t, two, bookOf(0, 0, 0, 0), []int64{most - 1, 1}, bookOf(1, most, most/2-1, most/2))
	// Rained is just at MaxWater less the sum of rain.
	flows(t, two, bookOf(most-3, most-3, 0, 0), []int64{1, 2}, bookOf(most-2, most, 0, 2))
	flows(t, two, bookOf(0, 1, 1, 0), []int64{most - 1, 0}, bookOf(0, most, most/2, most/2))
	refusesStep(t, two, bookOf(most-2, most-2, 0, 0), []int64{1, 2})
	refusesStep(t, two, bookOf(most, most, 0, 0), []int64{0, 1})
	refusesStep(t, two, bookOf(1, 1, 0, 0), []int64{most, 0})
	refusesStep(t, two, bookOf(0, 0, 0, 0), []int64{most, 1})
	refusesStep(t, two, bookOf(0, 0, 0, 0), []int64{most, most})
	// One more than may stand, one less, and those farthest off.
	for _, n := range []int64{most + 1, -1, math.MaxInt64, math.MinInt64} {
		refusesStep(t, two, bookOf(0, n, n, 0), dry)
		refusesStep(t, two, bookOf(0, n, 0, n), dry)
		refusesStep(t, two, bookOf(n, n, 0, 0), dry)
		refusesStep(t, two, bookOf(0, 0, n, -n), dry)
		refusesStep(t, two, bookOf(0, 0, -n, n), dry)
		refusesStep(t, two, bookOf(n, 0, -n, 0), dry)
		refusesStep(t, two, bookOf(-n, 0, 0, n), dry)
		refusesStep(t, two, bookOf(0, 0, 0, 0), []int64{n, 0})
		refusesStep(t, two, bookOf(0, 0, 0, 0), []int64{0, n})
		refusesStep(t, two, bookOf(0, 0, 0, 0), []int64{n, -n})
		refusesStep(t, two, bookOf(0, 1, 1, 0), []int64{0, n})
		refusesStep(t, two, bookOf(1, 1, 0, 0), []int64{n, 0})
	}
	// Sums that would come round to what is asked.
	quarter := int64(1 << 62)
	refusesStep(t, times(4, int64(-1)), bookOf(0, 0, times(4, quarter)...), times(4, int64(0)))
	refusesStep(t, times(4, int64(-1)), bookOf(0, 0, times(4, int64(0))...), times(4, quarter))
	refusesStep(t, times(576, int64(-1)), bookOf(0, 0, times(576, int64(0))...), times(576, int64(most)))
	refusesStep(t, times(576, int64(-1)), bookOf(0, most, times(576, int64(most))...), times(576, int64(0)))
}

func TestBooksThatAreNotRight(t *testing.T) {
	two, dry := []int64{1, -1}, []int64{0, 0}
	// The sum of Water and Out is not Rained.
	refusesStep(t, two, bookOf(0, 0, 1, 0), dry)
	refusesStep(t, two, bookOf(0, 0, 0, 1), dry)
	refusesStep(t, two, bookOf(1, 0, 0, 0), dry)
	refusesStep(t, two, bookOf(0, 1, 0, 0), dry)
	refusesStep(t, two, bookOf(4, 8, 2, 1), dry)
	refusesStep(t, two, bookOf(4, 6, 2, 1), dry)
	refusesStep(t, two, bookOf(4, 8, 2, 1), []int64{1, 0})
	refusesStep(t, two, bookOf(4, 8, 2, 1), []int64{0, 1})
	refusesStep(t, nil, bookOf(1, 0), nil)
	refusesStep(t, nil, bookOf(0, 1), nil)
	flows(t, two, bookOf(4, 7, 2, 1), dry, bookOf(5, 7, 1, 1))
	// Numbers too few and too many.
	refusesStep(t, two, bookOf(0, 0, 0), dry)
	refusesStep(t, two, bookOf(0, 0, 0, 0, 0), dry)
	refusesStep(t, two, bookOf(0, 0, 0, 0), []int64{0})
	refusesStep(t, two, bookOf(0, 0, 0, 0), []int64{0, 0, 0})
	refusesStep(t, two, bookOf(0, 0, 0), []int64{0})
	refusesStep(t, two, bookOf(0, 0, 0, 0, 0), []int64{0, 0, 0})
	refusesStep(t, two, bookOf(0, 0), nil)
	refusesStep(t, nil, bookOf(0, 0, 0), nil)
	refusesStep(t, nil, bookOf(0, 0), []int64{0})
	refusesStep(t, times(576, int64(-1)), bookOf(0, 0, times(575, int64(0))...), times(576, int64(0)))
	refusesStep(t, times(576, int64(-1)), bookOf(0, 0, times(576, int64(0))...), times(577, int64(0)))
	flows(t, times(576, int64(-1)), bookOf(0, 0, times(576, int64(0))...), times(576, int64(1)), bookOf(576, 576, times(576, int64(0))...))
}

// flowBySteps writes down first what leaves each cell, and lets it come then.
func flowBySteps(next []int64, book impl.Book, rain []int64) impl.Book {
	after := bookOf(book.Out, book.Rained, book.Water...)
	after.Water = slices.Clone(after.Water)
	for cell, n := range rain {
		after.Water[cell] += n
		after.Rained += n
	}
	var leaves []int64
	for _, n := range after.Water {
		leaves = append(leaves, n/2+n%2)
	}
	for cell, n := range leaves {
		after.Water[cell] -= n
	}
	for cell, n := range leaves {
		if next[cell] < 0 {
			after.Out += n
		} else {
			after.Water[next[cell]] += n
		}
	}
	return after
}

// step is FlowStep, whose book must be that of the other way, balanced, and nowhere below nothing.
func step(t *testing.T, next []int64, book impl.Book, rain []int64) impl.Book {
	t.Helper()
	after, ok := impl.FlowStep(next, book, rain)
	if want := flowBySteps(next, book, rain); !ok || !sameBook(after, want) {
		t.Fatalf("FlowStep(%v, %v, %v) = %v, %t and not %v", next, book, rain, after, ok, want)
	}
	if totalOf(after.Water)+after.Out != after.Rained || after.Rained != book.Rained+totalOf(rain) || after.Out < book.Out || len(after.Water) > 0 && slices.Min(after.Water) < 0 {
		t.Fatalf("FlowStep(%v, %v, %v) = %v is not balanced", next, book, rain, after)
	}
	return after
}

// Promise 13: the book of water stays balanced, and all water comes to the sea.
func TestBooksStayBalanced(t *testing.T) {
	d := dice(1303)
	for round := range 150 {
		b := rolledHeights(&d, []int64{5, 9, 24}[round%3])
		next := heightsNext(b)
		book := impl.Book{Water: times(len(next), int64(0))}
		for range 15 {
			var rain []int64
			for range next {
				rain = append(rain, d.below([]int64{2, 4, 1000, 60000000}[d.below(4)]))
			}
			book = step(t, next, book, rain)
		}
		dry := times(len(next), int64(0))
		for steps := 0; book.Out < book.Rained; steps++ {
			if steps > 2000 {
				t.Fatalf("of %v not all water comes to the sea", b)
			}
			book = step(t, next, book, dry)
		}
		if totalOf(book.Water) != 0 {
			t.Fatal(book)
		}
	}
}

// Promise 13: the water of one cell comes to its outlet, by its way and no other.
func TestWaterKeepsToItsWay(t *testing.T) {
	d := dice(1304)
	for range 150 {
		b := rolledHeights(&d, 9)
		next := heightsNext(b)
		first := d.below(int64(len(next)))
		way := map[int64]bool{}
		for at := first; at >= 0; at = next[at] {
			way[at] = true
		}
		rain, dry := times(len(next), int64(0)), times(len(next), int64(0))
		rain[first] = 1 + d.below(100)
		book := step(t, next, impl.Book{Water: dry}, rain)
		for book.Out < book.Rained {
			before := book
			book = step(t, next, book, dry)
			for cell, n := range book.Water {
				if n > 0 && !way[int64(cell)] {
					t.Fatalf("%v: water of %d comes to %d", b, first, cell)
				}
			}
			if book.Out-before.Out != (before.Water[impl.OutletOf(next, first)]+1)/2 {
				t.Fatalf("%v: water of %d flows out elsewhere than at its outlet", b, first)
			}
		}
	}
}

func floods(t *testing.T, water, most []int64, want ...int64) {
	t.Helper()
	if got := impl.Flood(impl.Book{Water: water}, most); !slices.Equal(got, want) {
		t.Errorf("Flood(%v, %v) = %v and not %v", water, most, got, want)
	}
}

func TestFlood(t *testing.T) {
	floods(t, nil, nil)
	floods(t, []int64{}, nil)
	floods(t, []int64{5}, []int64{5})
	floods(t, []int64{6}, []int64{5}, 0)
	floods(t, []int64{4}, []int64{5})
	floods(t, []int64{0}, []int64{0})
	floods(t, []int64{0}, []int64{-1}, 0)
	floods(t, []int64{1, 2, 3, 4}, []int64{4, 1, 3, 3}, 1, 3)
	floods(t, []int64{9, 9, 9}, []int64{1, 2, 3}, 0, 1, 2)
	floods(t, []int64{math.MinInt64, math.MaxInt64, math.MaxInt64, math.MinInt64}, []int64{math.MaxInt64, math.MinInt64, math.MaxInt64, math.MinInt64}, 1)
	// Lists that are not as long as each other, and those that are too long.
	floods(t, []int64{9}, nil)
	floods(t, nil, []int64{-9})
	floods(t, []int64{9, 9}, []int64{1})
	floods(t, []int64{9}, []int64{1, 1})
	floods(t, times(576, int64(9)), times(576, int64(8)), riseFrom(0, 576)...)
	floods(t, times(577, int64(9)), times(577, int64(8)))
	floods(t, times(577, int64(9)), times(576, int64(8)))
	floods(t, times(576, int64(9)), times(577, int64(8)))
	floods(t, times(100000, int64(9)), times(100000, int64(8)))
}

// What else stands in a book does not matter to a flood.
func TestFloodOfAnyBook(t *testing.T) {
	for _, book := range []impl.Book{bookOf(0, 0, 1, 9), bookOf(-1, 5, 1, 9), bookOf(math.MinInt64, math.MaxInt64, 1, 9), bookOf(1000000000001, 1000000000002, 1, 9)} {
		if got := impl.Flood(book, []int64{1, 8}); !slices.Equal(got, []int64{1}) {
			t.Errorf("Flood(%v) = %v", book, got)
		}
	}
}
