package tests

import (
	"fmt"
	"maps"
	"math"
	"math/big"
	"slices"
	"testing"

	"loop.example/g00051/impl"
)

func TestWarningNumbers(t *testing.T) {
	got := []int64{impl.MaxCorners, impl.MaxSpots, impl.MaxWarnings, impl.WnDesk, impl.WnForm, impl.WnOld, impl.WnFull}
	if want := []int64{40, 30, 40, 1, 2, 3, 4}; !slices.Equal(got, want) {
		t.Error(got, "and not", want)
	}
}

func TestLevelsByHand(t *testing.T) {
	on, off := []int64{10, 20, 30}, []int64{8, 15, 15}
	for _, c := range []struct {
		series []int64
		hold   int64
		want   []int64
	}{
		// Numbers at an on, at an off and beside them.
		{[]int64{9}, 1, []int64{0}}, {[]int64{10}, 1, []int64{1}}, {[]int64{11}, 1, []int64{1}}, {[]int64{19}, 1, []int64{1}}, {[]int64{20}, 1, []int64{2}}, {[]int64{29}, 1, []int64{2}}, {[]int64{30}, 1, []int64{3}}, {[]int64{mostOf}, 1, []int64{3}}, {[]int64{-mostOf}, 1, []int64{0}},
		{[]int64{10, 9}, 1, []int64{1, 1}}, {[]int64{10, 8}, 1, []int64{1, 1}}, {[]int64{10, 7}, 1, []int64{1, 0}}, {[]int64{20, 15}, 1, []int64{2, 2}}, {[]int64{20, 14}, 1, []int64{2, 1}}, {[]int64{30, 15}, 1, []int64{3, 3}}, {[]int64{30, 16}, 1, []int64{3, 3}},
		// A level that rises by several, falls by several, falls to 0.
		{[]int64{0, 30}, 1, []int64{0, 3}}, {[]int64{10, 30}, 1, []int64{1, 3}}, {[]int64{30, 14}, 1, []int64{3, 1}}, {[]int64{30, 8}, 1, []int64{3, 1}}, {[]int64{30, 7}, 1, []int64{3, 0}}, {[]int64{30, 14, 7, 30}, 1, []int64{3, 1, 0, 3}},
		// A count that just reaches hold, that is broken off, that does not reach it.
		{[]int64{10, 7, 7}, 2, []int64{1, 1, 0}}, {[]int64{10, 7, 8, 7, 7}, 2, []int64{1, 1, 1, 1, 0}}, {[]int64{10, 7, 9, 7, 8, 7}, 2, []int64{1, 1, 1, 1, 1, 1}}, {[]int64{10, 7, 7}, 3, []int64{1, 1, 1}}, {[]int64{10, 7, 7, 7}, 3, []int64{1, 1, 1, 0}}, {[]int64{10, 7, 7, 10, 7, 7, 7}, 3, []int64{1, 1, 1, 1, 1, 1, 0}},
		// The count begins anew behind a rise and behind a fall.
		{[]int64{10, 7, 20, 14, 14}, 2, []int64{1, 1, 2, 2, 1}}, {[]int64{30, 14, 14, 7, 7}, 2, []int64{3, 3, 1, 1, 0}}, {[]int64{30, 7, 7, 7, 7}, 2, []int64{3, 3, 0, 0, 0}}, {[]int64{20, 7, 14, 7, 7}, 2, []int64{2, 2, 1, 1, 0}}, {[]int64{20, 14, 7, 7, 7}, 2, []int64{2, 2, 0, 0, 0}},
		// Where it falls to is told by the last number alone.
		{[]int64{30, 0, 0, 14}, 3, []int64{3, 3, 3, 1}}, {[]int64{30, 14, 14, 0}, 3, []int64{3, 3, 3, 0}},
		// While it falls, a lower on is nothing that rises.
		{[]int64{30, 10, 12}, 2, []int64{3, 3, 1}}, {[]int64{30, 14, 15, 14, 20, 14}, 2, []int64{3, 3, 3, 3, 3, 3}},
	} {
		if got, ok := impl.Levels(c.series, on, off, c.hold); !slices.Equal(got, c.want) || !ok {
			t.Errorf("Levels(%v, .., %d) = %v, %v and not %v", c.series, c.hold, got, ok, c.want)
		}
	}
	if got, ok := impl.Levels(append([]int64{5}, times(99, int64(4))...), []int64{5}, []int64{5}, 100); !ok || !slices.Equal(got, times(100, int64(1))) {
		t.Error("99 of 100", got, ok)
	}
	if got, ok := impl.Levels(append([]int64{5}, times(101, int64(4))...), []int64{5}, []int64{5}, 100); !ok || !slices.Equal(got, append(times(100, int64(1)), 0, 0)) {
		t.Error("100 of 100", got, ok)
	}
}

func TestLevelsEdges(t *testing.T) {
	const most = mostOf
	five := []int64{1, 2, 3, 4, 5}
	for _, c := range []struct {
		on, off []int64
		hold    int64
		want    bool
	}{
		{[]int64{1}, []int64{1}, 1, true}, {[]int64{1}, []int64{0}, 1, true}, {[]int64{1}, []int64{2}, 1, false}, {five, five, 1, true}, {[]int64{most}, []int64{-most}, 100, true}, {[]int64{-most}, []int64{-most}, 1, true}, {[]int64{-most, most}, []int64{-most, most}, 1, true},
		{nil, nil, 1, false}, {nil, []int64{1}, 1, false}, {[]int64{1}, nil, 1, false}, {five, five[:4], 1, false}, {five[:4], five, 1, false}, {[]int64{1, 2}, []int64{1}, 1, false}, {append(slices.Clone(five), 6), append(slices.Clone(five), 6), 1, false}, {append(slices.Clone(five), 6), five, 1, false}, {five, append(slices.Clone(five), 5), 1, false}, {riseFrom(0, 500), riseFrom(0, 500), 1, false},
		{[]int64{1, 1}, []int64{1, 1}, 1, false}, {[]int64{2, 1}, []int64{1, 1}, 1, false}, {[]int64{1, 2, 2}, []int64{1, 2, 2}, 1, false}, {[]int64{1, 3, 2}, []int64{1, 2, 2}, 1, false}, {[]int64{1, 2}, []int64{1, 1}, 1, true}, {five, times(5, int64(1)), 1, true}, {[]int64{1, 2}, []int64{1, 0}, 1, false}, {[]int64{5, 6, 7}, []int64{4, 5, 3}, 1, false}, {[]int64{1, 5}, []int64{2, 5}, 1, false}, {[]int64{1, 5}, []int64{1, 6}, 1, false}, {[]int64{1, 5}, []int64{1, 5}, 1, true}, {five, []int64{1, 2, 3, 4, 6}, 1, false},
		{[]int64{most + 1}, []int64{0}, 1, false}, {[]int64{0}, []int64{-most - 1}, 1, false}, {[]int64{-most - 1}, []int64{-most - 1}, 1, false}, {[]int64{0, most + 1}, []int64{0, 1}, 1, false}, {[]int64{math.MaxInt64}, []int64{0}, 1, false}, {[]int64{0}, []int64{math.MinInt64}, 1, false},
		{[]int64{1}, []int64{1}, 0, false}, {[]int64{1}, []int64{1}, -1, false}, {[]int64{1}, []int64{1}, 2, true}, {[]int64{1}, []int64{1}, 99, true}, {[]int64{1}, []int64{1}, 100, true}, {[]int64{1}, []int64{1}, 101, false}, {[]int64{1}, []int64{1}, math.MaxInt64, false}, {[]int64{1}, []int64{1}, math.MinInt64, false},
	} {
		for _, series := range edgeSeries() {
			got, ok := impl.Levels(series, c.on, c.off, c.hold)
			if ok != c.want || ok && len(got) != len(series) || !ok && len(got) != 0 {
				t.Fatalf("Levels(%v, %v, %v, %d) = %v, %v", series, c.on, c.off, c.hold, got, ok)
			}
		}
	}
	for _, series := range wrongSeries() {
		if got, ok := impl.Levels(series, []int64{1}, []int64{1}, 1); len(got) != 0 || ok {
			t.Fatalf("Levels(%v, ..) = %v, %v", series, got, ok)
		}
	}
}

// levelsByWindows asks of each number what was there since hold numbers.
func levelsByWindows(series, on, off []int64, hold int64) []int64 {
	levels := []int64{0}
	highest := func(bounds []int64, x int64) int64 {
		for k := len(bounds); k > 0; k-- {
			if x >= bounds[k-1] {
				return int64(k)
			}
		}
		return 0
	}
	for i, x := range series {
		was := levels[i]
		falls := was > 0 && int64(i)+1 >= hold
		for back := 0; falls && int64(back) < hold; back++ {
			falls = levels[i-back] == was && series[i-back] < off[was-1]
		}
		switch up := highest(on, x); {
		case up > was:
			levels = append(levels, up)
		case falls:
			levels = append(levels, highest(off, x))
		default:
			levels = append(levels, was)
		}
	}
	return levels[1:]
}

// Promise 22: no level falls within its hold: what fell was there that long, and each number since was below its off.
func keepsHold(t *testing.T, series, on, off []int64, hold int64) (falls int) {
	t.Helper()
	levels, ok := impl.Levels(series, on, off, hold)
	if want := levelsByWindows(series, on, off, hold); !ok || !slices.Equal(levels, want) {
		t.Fatalf("Levels(%v, %v, %v, %d) = %v, %v and not %v", series, on, off, hold, levels, ok, want)
	}
	since := 0
	for i := range levels {
		if i == 0 || levels[i] == levels[i-1] {
			continue
		}
		if was := levels[i-1]; levels[i] < was {
			falls++
			if int64(i-since) < hold || slices.Max(series[i+1-int(hold):i+1]) >= off[was-1] {
				t.Fatalf("Levels(%v, %v, %v, %d) = %v falls at %d", series, on, off, hold, levels, i)
			}
		}
		since = i
	}
	return falls
}

func rolledBounds(d *dice) (on, off []int64) {
	at := d.below(7) - 3
	for range 1 + d.below(5) {
		on = append(on, at)
		below := at - d.below(4)
		if n := len(off); n > 0 {
			below = max(below, off[n-1])
		}
		off = append(off, below)
		at += 1 + d.below(4)
	}
	return on, off
}

func TestRolledLevels(t *testing.T) {
	d := dice(2201)
	falls := 0
	for i := range 6000 {
		on, off := rolledBounds(&d)
		series := rolledMembers(&d, 1+i%80, 12)
		if i%100 == 0 {
			series = rolledMembers(&d, 500, 12)
		}
		falls += keepsHold(t, series, on, off, 1+d.below(4))
		keepsHold(t, series, on, off, 1+d.below(100))
	}
	if falls < 5000 {
		t.Error("only", falls, "falls")
	}
}

func TestAllShortLevels(t *testing.T) {
	for cells := range 7 {
		for _, series := range allRows(cells+1, 0, 2, 4, 6) {
			for hold := int64(1); hold <= 4; hold++ {
				keepsHold(t, series, []int64{3, 6}, []int64{1, 3}, hold)
			}
		}
	}
}

func spotAt(x, y int64) impl.Spot {
	return impl.Spot{X: x, Y: y}
}

func spotsAt(numbers ...int64) []impl.Spot {
	var list []impl.Spot
	for i := 0; i < len(numbers); i += 2 {
		list = append(list, spotAt(numbers[i], numbers[i+1]))
	}
	return list
}

func squareOf(x, y, size int64) []impl.Spot {
	return spotsAt(x, y, x+size, y, x+size, y+size, x, y+size)
}

// insideByCrossing counts where the line through p, level with it, meets a side behind p.
func insideByCrossing(area []impl.Spot, p impl.Spot) bool {
	met := 0
	for i, a := range area {
		b := area[(i+1)%len(area)]
		if a.Y > b.Y {
			a, b = b, a
		}
		if a.Y > p.Y || b.Y <= p.Y {
			continue
		}
		x := big.NewRat(p.Y-a.Y, b.Y-a.Y)
		x.Add(x.Mul(x, big.NewRat(b.X-a.X, 1)), big.NewRat(a.X, 1))
		if x.Cmp(big.NewRat(p.X, 1)) > 0 {
			met++
		}
	}
	return met%2 == 1
}

func insideIs(t *testing.T, area []impl.Spot, p impl.Spot) bool {
	t.Helper()
	got := impl.Inside(area, p)
	if got != insideByCrossing(area, p) {
		t.Fatalf("Inside(%v, %v) = %v", area, p, got)
	}
	return got
}

func TestInsideByHand(t *testing.T) {
	const most = 1000000
	square, tip := squareOf(0, 0, 10), spotsAt(0, 0, 10, 5, 0, 10)
	slanted := spotsAt(0, 0, 10, 10, 0, 10)
	hourglass := spotsAt(0, 0, 10, 0, 0, 10, 10, 10)
	for _, c := range []struct {
		area []impl.Spot
		p    impl.Spot
		want bool
	}{
		// Within, at each spot, on each side, just beside each.
		{square, spotAt(5, 5), true}, {square, spotAt(0, 0), true}, {square, spotAt(10, 0), false}, {square, spotAt(10, 10), false}, {square, spotAt(0, 10), false}, {square, spotAt(5, 0), true}, {square, spotAt(10, 5), false}, {square, spotAt(5, 10), false}, {square, spotAt(0, 5), true}, {square, spotAt(-1, 5), false}, {square, spotAt(9, 5), true}, {square, spotAt(11, 5), false}, {square, spotAt(5, -1), false}, {square, spotAt(5, 9), true}, {square, spotAt(5, 11), false}, {square, spotAt(9, 9), true}, {square, spotAt(-1, 0), false}, {square, spotAt(-1, -1), false}, {square, spotAt(-1, 10), false}, {square, spotAt(9, 0), true}, {square, spotAt(0, 9), true},
		// A spot that the level line meets is met once.
		{tip, spotAt(5, 5), true}, {tip, spotAt(9, 5), true}, {tip, spotAt(10, 5), false}, {tip, spotAt(-1, 5), false}, {tip, spotAt(0, 5), true}, {tip, spotAt(0, 0), false}, {tip, spotAt(-1, 0), false}, {tip, spotAt(-5, 10), false}, {tip, spotAt(1, 1), true}, {tip, spotAt(2, 1), false}, {tip, spotAt(3, 1), false}, {tip, spotAt(1, 9), true},
		{slanted, spotAt(0, 1), true}, {slanted, spotAt(1, 1), false}, {slanted, spotAt(4, 5), true}, {slanted, spotAt(5, 5), false}, {slanted, spotAt(6, 5), false}, {slanted, spotAt(0, 0), false}, {slanted, spotAt(5, 10), false},
		{hourglass, spotAt(5, 2), true}, {hourglass, spotAt(5, 8), true}, {hourglass, spotAt(2, 5), false}, {hourglass, spotAt(8, 5), false}, {hourglass, spotAt(5, 5), false},
		// All level, all alike, gone round twice.
		{spotsAt(0, 0, 5, 0, 10, 0), spotAt(5, 0), false}, {times(3, spotAt(5, 5)), spotAt(5, 5), false}, {times(40, spotAt(5, 5)), spotAt(4, 5), false}, {slices.Concat(square, square), spotAt(5, 5), false}, {slices.Concat(square, square, square), spotAt(5, 5), true}, {append(slices.Clone(square), times(36, square[3])...), spotAt(5, 5), true}, {spotsAt(0, 0, 0, 0, 10, 0, 10, 0, 10, 10, 0, 10), spotAt(5, 5), true},
		// At the bounds.
		{squareOf(-most, -most, 2*most), spotAt(0, 0), true}, {squareOf(-most, -most, 2*most), spotAt(-most, -most), true}, {squareOf(-most, -most, 2*most), spotAt(most, most), false}, {squareOf(-most, -most, 2*most), spotAt(most-1, most-1), true}, {spotsAt(-most, -most, most, most, -most, most), spotAt(-1, 0), true}, {spotsAt(-most, -most, most, most, -most, most), spotAt(0, 0), false}, {spotsAt(most, -most, -most, most, -most, -most), spotAt(-1, 0), true},
	} {
		if got := impl.Inside(c.area, c.p); got != c.want {
			t.Errorf("Inside(%v, %v) = %v", c.area, c.p, got)
		}
	}
}

func TestInsideOfNoArea(t *testing.T) {
	const most = 1000000
	square := squareOf(0, 0, 10)
	for _, area := range wrongAreas() {
		for _, p := range spotsAt(5, 5, 0, 0, 1, 1) {
			if impl.Inside(area, p) {
				t.Errorf("%v is inside %v", p, area)
			}
		}
	}
	wide := squareOf(-most, -most, 2*most)
	for _, p := range spotsAt(-most-1, 0, most+1, 0, 0, -most-1, 0, most+1, math.MinInt64, 0, 0, math.MinInt64, math.MaxInt64, 5, 5, math.MaxInt64, math.MinInt64, math.MinInt64) {
		if impl.Inside(wide, p) || impl.Inside(square, p) {
			t.Errorf("%v is inside", p)
		}
	}
	for _, n := range []int{3, 4, 39, 40} {
		area := append(slices.Clone(square), times(n, square[3])...)[:n]
		if !insideIs(t, area, spotAt(5, 1)) {
			t.Error(n, "spots are an area")
		}
	}
}

func wrongAreas() [][]impl.Spot {
	const most = 1000000
	square := squareOf(0, 0, 10)
	wrong := [][]impl.Spot{nil, {}, square[:1], square[:2], append(slices.Clone(square), times(37, square[3])...), times(41, spotAt(0, 0)), slices.Concat(times(37, spotAt(0, 0)), square), times(5000, spotAt(5, 5))}
	for _, p := range spotsAt(most+1, 0, -most-1, 0, 0, most+1, 0, -most-1, math.MaxInt64, 0, 0, math.MinInt64) {
		for i := range square {
			area := slices.Clone(square)
			area[i] = p
			wrong = append(wrong, area)
		}
	}
	return wrong
}

// Areas side by side share no point, and leave none out.
func TestAreasSideBySide(t *testing.T) {
	d := dice(2202)
	for range 300 {
		x, y := d.below(9)-4, d.below(9)-4
		parts := [][]impl.Spot{spotsAt(-5, -5, 5, -5, x, y), spotsAt(5, -5, 5, 5, x, y), spotsAt(5, 5, -5, 5, x, y), spotsAt(-5, 5, -5, -5, x, y)}
		for px := int64(-7); px <= 7; px++ {
			for py := int64(-7); py <= 7; py++ {
				count := 0
				for _, area := range parts {
					if insideIs(t, area, spotAt(px, py)) {
						count++
					}
				}
				want := 0
				if px >= -5 && px < 5 && py >= -5 && py < 5 {
					want = 1
				}
				if count != want {
					t.Fatalf("%d, %d is in %d of %v", px, py, count, parts)
				}
			}
		}
	}
}

func rolledArea(d *dice, most int64) []impl.Spot {
	var area []impl.Spot
	for range 3 + d.below([]int64{1, 5, 38}[d.below(3)]) {
		area = append(area, spotAt(d.below(2*most+1)-most, d.below(2*most+1)-most))
	}
	return area
}

// Which way round an area is told, and from which spot on, does not show.
func TestRolledAreas(t *testing.T) {
	d := dice(2203)
	inside := 0
	for i := range 20000 {
		most := []int64{2, 5, 20, 1000000}[i%4]
		area := rolledArea(&d, most)
		p := spotAt(d.below(2*most+1)-most, d.below(2*most+1)-most)
		if d.below(3) == 0 {
			p = area[d.below(int64(len(area)))]
		}
		in := insideIs(t, area, p)
		if in {
			inside++
		}
		back := slices.Clone(area)
		slices.Reverse(back)
		at := d.below(int64(len(area)))
		if insideIs(t, back, p) != in || insideIs(t, slices.Concat(area[at:], area[:at]), p) != in {
			t.Fatalf("%v of %v, another way round", p, area)
		}
	}
	if inside < 3000 {
		t.Error("only", inside, "inside")
	}
}

func warningOf(id, version, level int64, area []impl.Spot, from, to int64) impl.Warning {
	return impl.Warning{Id: id, Version: version, Level: level, Area: area, From: from, To: to}
}

func noticeOf(place, id, version, level int64) impl.Notice {
	return impl.Notice{Place: place, Id: id, Version: version, Level: level}
}

func someWarning() impl.Warning {
	return warningOf(20, 5, 3, squareOf(0, 0, 10), 100, 200)
}

// busyDesk has three places: within the areas of the first two warnings, of the last two, of none.
func busyDesk() impl.Desk {
	return impl.Desk{
		Places: spotsAt(5, 5, 25, 5, 90, 90),
		Last:   []impl.Warning{warningOf(10, 3, 2, squareOf(0, 0, 10), 100, 200), warningOf(20, 5, 4, squareOf(0, 0, 30), 150, 250), warningOf(30, 1, 1, squareOf(20, 0, 10), 100, 300)},
		Told:   []impl.Notice{noticeOf(0, 10, 3, 2), noticeOf(0, 20, 4, 4), noticeOf(1, 20, 1, 0), noticeOf(1, 30, 1, 1), noticeOf(2, 10, 2, 5)},
	}
}

func copyOfDesk(d impl.Desk) impl.Desk {
	d.Places, d.Last, d.Told = slices.Clone(d.Places), slices.Clone(d.Last), slices.Clone(d.Told)
	for i := range d.Last {
		d.Last[i].Area = slices.Clone(d.Last[i].Area)
	}
	return d
}

func sameWarning(a, b impl.Warning) bool {
	return a.Id == b.Id && a.Version == b.Version && a.Level == b.Level && a.From == b.From && a.To == b.To && a.Gone == b.Gone && slices.Equal(a.Area, b.Area)
}

func sameDesk(a, b impl.Desk) bool {
	return slices.Equal(a.Places, b.Places) && slices.EqualFunc(a.Last, b.Last, sameWarning) && slices.Equal(a.Told, b.Told)
}

func wrongWarnings() map[string]impl.Warning {
	wrong := map[string]impl.Warning{"nothing": {}}
	edit := func(name string, change func(w *impl.Warning)) {
		w := someWarning()
		change(&w)
		wrong[name] = w
	}
	for _, n := range []int64{0, -1, 1000001, math.MaxInt64, math.MinInt64} {
		edit(fmt.Sprint("Id ", n), func(w *impl.Warning) { w.Id = n })
		edit(fmt.Sprint("Version ", n), func(w *impl.Warning) { w.Version = n })
		edit(fmt.Sprint("Gone, Version ", n), func(w *impl.Warning) { w.Version, w.Gone = n, true })
	}
	for _, n := range []int64{0, -1, 6, math.MaxInt64, math.MinInt64} {
		edit(fmt.Sprint("Level ", n), func(w *impl.Warning) { w.Level = n })
	}
	for i, area := range wrongAreas() {
		edit(fmt.Sprint("area ", i), func(w *impl.Warning) { w.Area = area })
	}
	for _, s := range []impl.Span{{From: 100, To: 100}, {From: 101, To: 100}, {From: 0, To: 0}, {From: impl.MaxTime, To: impl.MaxTime}, {From: -1, To: 100}, {From: 100, To: impl.MaxTime + 1}, {From: impl.MaxTime, To: impl.MaxTime + 1}, {From: math.MinInt64, To: math.MaxInt64}, {From: 200, To: 100}} {
		edit(fmt.Sprint("span ", s), func(w *impl.Warning) { w.From, w.To = s.From, s.To })
	}
	return wrong
}

func rightWarnings() map[string]impl.Warning {
	right := map[string]impl.Warning{}
	edit := func(name string, change func(w *impl.Warning)) {
		w := someWarning()
		change(&w)
		right[name] = w
	}
	edit("as it is", func(w *impl.Warning) {})
	edit("Gone", func(w *impl.Warning) { w.Gone = true })
	for _, n := range []int64{1, 2, 999999, 1000000} {
		edit(fmt.Sprint("Id ", n), func(w *impl.Warning) { w.Id = n })
		edit(fmt.Sprint("Version ", n), func(w *impl.Warning) { w.Version = n })
	}
	for _, n := range []int64{1, 5} {
		edit(fmt.Sprint("Level ", n), func(w *impl.Warning) { w.Level = n })
	}
	for _, n := range []int{3, 40} {
		edit(fmt.Sprint(n, " spots"), func(w *impl.Warning) { w.Area = times(n, spotAt(1000000, -1000000)) })
	}
	for _, s := range []impl.Span{{From: 0, To: 1}, {From: 100, To: 101}, {From: 0, To: impl.MaxTime}, {From: impl.MaxTime - 1, To: impl.MaxTime}} {
		edit(fmt.Sprint("span ", s), func(w *impl.Warning) { w.From, w.To = s.From, s.To })
	}
	return right
}

func TestOneWarning(t *testing.T) {
	for name, w := range rightWarnings() {
		d, code := impl.Announce(impl.Desk{}, w)
		if code != 0 || !sameDesk(d, impl.Desk{Last: []impl.Warning{w}}) {
			t.Errorf("%s: %v, %d", name, d, code)
		}
		if d, n := impl.Notify(impl.Desk{Last: []impl.Warning{w}}, 0); !sameDesk(d, impl.Desk{Last: []impl.Warning{w}}) || len(n) != 0 {
			t.Errorf("%s: a desk with it: %v, %v", name, d, n)
		}
	}
	for name, w := range wrongWarnings() {
		if d, code := impl.Announce(busyDesk(), w); code != impl.WnForm || !sameDesk(d, busyDesk()) {
			t.Errorf("%s: %v, %d", name, d, code)
		}
		refusesDesk(t, name, impl.Desk{Last: []impl.Warning{w}})
		refusesDesk(t, name+" behind another", impl.Desk{Last: []impl.Warning{warningOf(1, 1, 1, squareOf(0, 0, 1), 0, 1), w}})
	}
}

func refusesDesk(t *testing.T, name string, d impl.Desk) {
	t.Helper()
	// A desk that is not right is told ahead of a warning that is not, or is old, or finds no room.
	for _, w := range []impl.Warning{someWarning(), {}, warningOf(10, 1, 2, squareOf(0, 0, 10), 100, 200)} {
		if got, code := impl.Announce(d, w); code != impl.WnDesk || !sameDesk(got, impl.Desk{}) {
			t.Errorf("%s: Announce: %v, %d", name, got, code)
		}
	}
	for _, now := range []int64{150, 0, impl.MaxTime, -1} {
		if got, n := impl.Notify(d, now); len(n) != 0 || !sameDesk(got, impl.Desk{}) {
			t.Errorf("%s: Notify: %v, %v", name, got, n)
		}
	}
}

// manyWarnings have the Ids 10, 20, ..
func manyWarnings(count int) []impl.Warning {
	var list []impl.Warning
	for i := range count {
		list = append(list, warningOf(10*int64(i+1), 5, 1+int64(i%5), squareOf(0, 0, 10), 100, 200))
	}
	return list
}

// fullDesk has as many as may be of all lists.
func fullDesk() impl.Desk {
	d := impl.Desk{Places: times(30, spotAt(5, 5)), Last: manyWarnings(40)}
	for place := range int64(30) {
		for _, w := range d.Last {
			d.Told = append(d.Told, noticeOf(place, w.Id, 1, 0))
		}
	}
	return d
}

type deskEdits map[string]func(d *impl.Desk)

func wrongDesks() deskEdits {
	const most = 1000000
	wrong := deskEdits{
		"31 places": func(d *impl.Desk) { d.Places = times(31, spotAt(5, 5)) }, "41 warnings": func(d *impl.Desk) { d.Last, d.Told = manyWarnings(41), nil }, "1201 notices": func(d *impl.Desk) { *d = fullDesk(); d.Told = append(d.Told, noticeOf(29, 400, 1, 0)) }, "5000 notices": func(d *impl.Desk) { *d = fullDesk(); d.Told = times(5, d.Told...) },
		"no places": func(d *impl.Desk) { d.Places = nil }, "a place less": func(d *impl.Desk) { d.Places = d.Places[:2] }, "no warnings": func(d *impl.Desk) { d.Last = nil }, "a warning less": func(d *impl.Desk) { d.Last = d.Last[1:] },
		"Ids alike": func(d *impl.Desk) { d.Last[1].Id = 10; d.Told = nil }, "Ids that fall": func(d *impl.Desk) { d.Last[0], d.Last[2] = d.Last[2], d.Last[0]; d.Told = nil }, "the last Id falls": func(d *impl.Desk) { d.Last[2].Id = 15; d.Told = nil },
		"places out of order": func(d *impl.Desk) { slices.Reverse(d.Told) }, "two out of order": func(d *impl.Desk) { d.Told[0], d.Told[1] = d.Told[1], d.Told[0] }, "a place ahead of another": func(d *impl.Desk) { d.Told[1], d.Told[2] = d.Told[2], d.Told[1] }, "the last two": func(d *impl.Desk) { d.Told[3], d.Told[4] = d.Told[4], d.Told[3] },
		"one twice": func(d *impl.Desk) { d.Told = slices.Insert(d.Told, 1, d.Told[0]) }, "one twice with another level": func(d *impl.Desk) { d.Told = slices.Insert(d.Told, 1, noticeOf(0, 10, 2, 1)) },
		"a Version above": func(d *impl.Desk) { d.Told[0].Version = 4 }, "the last one's Version above": func(d *impl.Desk) { d.Told[4].Version = 4 },
	}
	for _, p := range spotsAt(most+1, 0, -most-1, 0, 0, most+1, 0, -most-1, math.MaxInt64, 0, 0, math.MinInt64) {
		for i := range 3 {
			wrong[fmt.Sprint("place ", i, " at ", p)] = func(d *impl.Desk) { d.Places[i] = p }
		}
	}
	for _, n := range []int64{0, -1, 6, math.MaxInt64, math.MinInt64} {
		wrong[fmt.Sprint("told Version ", n)] = func(d *impl.Desk) { d.Told[1].Version = n }
	}
	for _, n := range []int64{-1, 6, math.MaxInt64, math.MinInt64} {
		wrong[fmt.Sprint("told Level ", n)] = func(d *impl.Desk) { d.Told[1].Level = n }
	}
	for _, n := range []int64{-1, 3, 30, math.MaxInt64, math.MinInt64} {
		wrong[fmt.Sprint("told Place ", n)] = func(d *impl.Desk) { d.Told = []impl.Notice{noticeOf(n, 10, 1, 1)} }
	}
	for _, n := range []int64{0, 9, 11, 15, 31, 1000000, -10, math.MaxInt64, math.MinInt64} {
		wrong[fmt.Sprint("told Id ", n)] = func(d *impl.Desk) { d.Told = []impl.Notice{noticeOf(1, n, 1, 1)} }
	}
	for name, w := range wrongWarnings() {
		if w.Id == someWarning().Id {
			w.Id = 40
		}
		wrong["a warning with "+name] = func(d *impl.Desk) { d.Last = append(d.Last, w) }
	}
	return wrong
}

func TestWrongDesks(t *testing.T) {
	for name, edit := range wrongDesks() {
		d := busyDesk()
		edit(&d)
		refusesDesk(t, name, d)
	}
}

func TestRightDesks(t *testing.T) {
	const most = 1000000
	for name, edit := range (deskEdits{
		"as it is": func(d *impl.Desk) {}, "empty": func(d *impl.Desk) { *d = impl.Desk{} }, "full": func(d *impl.Desk) { *d = fullDesk() }, "no places": func(d *impl.Desk) { d.Places, d.Told = nil, nil }, "no warnings": func(d *impl.Desk) { d.Last, d.Told = nil, nil }, "nothing told": func(d *impl.Desk) { d.Told = nil },
		"places alike": func(d *impl.Desk) { d.Places[1] = d.Places[0] }, "places at the bounds": func(d *impl.Desk) { d.Places = spotsAt(most, most, -most, -most, most, -most) },
		"told Level 0 and 5": func(d *impl.Desk) { d.Told[0].Level, d.Told[1].Level = 0, 5 }, "told Version 1 and the last": func(d *impl.Desk) { d.Told[0].Version, d.Told[1].Version = 1, 5 }, "Gone": func(d *impl.Desk) { d.Last[1].Gone = true },
		"Ids one behind the other": func(d *impl.Desk) { d.Last[0].Id, d.Last[1].Id, d.Told = 1, 2, nil }, "Ids at the bounds": func(d *impl.Desk) { d.Last[0].Id, d.Last[2].Id, d.Told = 1, most, nil }, "Version at its bound": func(d *impl.Desk) { d.Last[0].Version, d.Told[0].Version = most, most },
	}) {
		d := busyDesk()
		edit(&d)
		if got, code := impl.Announce(d, impl.Warning{}); code != impl.WnForm || !sameDesk(got, d) {
			t.Errorf("%s: %v, %d", name, got, code)
		}
		for _, now := range []int64{0, 150, impl.MaxTime} {
			notifyIs(t, d, now)
		}
		for _, now := range noTimes() {
			if got, n := impl.Notify(d, now); len(n) != 0 || !sameDesk(got, impl.Desk{}) {
				t.Errorf("%s at %d: %v, %v", name, now, got, n)
			}
		}
	}
}

func TestAnnounceByHand(t *testing.T) {
	d := busyDesk()
	area := spotsAt(1, 1, 2, 2, 3, 3)
	for _, c := range []struct {
		id, version int64
		code        int64
		place       int
	}{
		{10, 2, impl.WnOld, 0}, {10, 3, impl.WnOld, 0}, {10, 4, 0, 0}, {10, 1000000, 0, 0}, {20, 5, impl.WnOld, 1}, {20, 6, 0, 1}, {30, 1, impl.WnOld, 2}, {30, 2, 0, 2},
		// Ahead of, between and behind those that are there.
		{1, 1, 0, -1}, {9, 1, 0, -1}, {11, 1, 0, -2}, {19, 7, 0, -2}, {21, 1, 0, -3}, {29, 1, 0, -3}, {31, 1, 0, -4}, {1000000, 1, 0, -4},
	} {
		w := warningOf(c.id, c.version, 5, area, 7, 8)
		w.Gone = c.version%2 == 0
		want := copyOfDesk(d)
		switch {
		case c.code == 0 && c.place >= 0:
			want.Last[c.place] = w
		case c.code == 0:
			want.Last = slices.Insert(want.Last, -1-c.place, w)
		}
		got, code := impl.Announce(d, w)
		if code != c.code || !sameDesk(got, want) {
			t.Errorf("Id %d, Version %d: %v, %d and not %v", c.id, c.version, got, code, want)
		}
		announces(t, d, w)
	}
}

// Each refusal is told ahead of those behind it.
func TestRefusalsOfWarnings(t *testing.T) {
	full := fullDesk()
	square := squareOf(0, 0, 10)
	for _, c := range []struct {
		name string
		w    impl.Warning
		code int64
	}{
		{"wrong, of a new Id", warningOf(5, 1, 0, square, 100, 200), impl.WnForm}, {"wrong, old", warningOf(10, 1, 6, square, 100, 200), impl.WnForm}, {"wrong, of an Id that is none", warningOf(0, 1, 1, square, 100, 200), impl.WnForm},
		{"old", warningOf(10, 5, 1, square, 100, 200), impl.WnOld}, {"older", warningOf(400, 1, 1, square, 100, 200), impl.WnOld},
		{"of a new Id", warningOf(5, 9, 1, square, 100, 200), impl.WnFull}, {"of an Id between", warningOf(15, 9, 1, square, 100, 200), impl.WnFull}, {"of an Id behind", warningOf(401, 1, 1, square, 100, 200), impl.WnFull},
		{"newer", warningOf(10, 6, 1, square, 100, 200), 0}, {"newer, the last", warningOf(400, 6, 1, square, 100, 200), 0},
	} {
		got, code := impl.Announce(full, c.w)
		if code != c.code || code != 0 && !sameDesk(got, full) {
			t.Errorf("%s: %d", c.name, code)
		}
	}
	almost := fullDesk()
	almost.Last, almost.Told = almost.Last[:39], nil
	if got, code := impl.Announce(almost, warningOf(5, 9, 1, square, 100, 200)); code != 0 || len(got.Last) != 40 || got.Last[0].Id != 5 || got.Last[39].Id != 390 {
		t.Error("the last that finds room", code)
	}
}

// announceBySteps puts the last ones in order anew.
func announceBySteps(d impl.Desk, w impl.Warning) (impl.Desk, int64) {
	if _, code := impl.Announce(impl.Desk{}, w); code != 0 {
		return d, impl.WnForm
	}
	byId := map[int64]impl.Warning{}
	for _, last := range d.Last {
		byId[last.Id] = last
	}
	if last, there := byId[w.Id]; there && last.Version >= w.Version {
		return d, impl.WnOld
	}
	byId[w.Id] = w
	if len(byId) > 40 {
		return d, impl.WnFull
	}
	next := impl.Desk{Places: d.Places, Told: d.Told}
	for _, id := range slices.Sorted(maps.Keys(byId)) {
		next.Last = append(next.Last, byId[id])
	}
	return next, 0
}

func announces(t *testing.T, d impl.Desk, w impl.Warning) (impl.Desk, int64) {
	t.Helper()
	want, wanted := announceBySteps(d, w)
	got, code := impl.Announce(d, w)
	if code != wanted || !sameDesk(got, want) {
		t.Fatalf("Announce(%v, %v) = %v, %d and not %v, %d", d, w, got, code, want, wanted)
	}
	return got, code
}

func levelBySteps(w impl.Warning, p impl.Spot, now int64) int64 {
	if !w.Gone && now >= w.From && now < w.To && insideByCrossing(w.Area, p) {
		return w.Level
	}
	return 0
}

// notifyBySteps keeps what was told by place and Id.
func notifyBySteps(d impl.Desk, now int64) (impl.Desk, []impl.Notice) {
	type key struct{ place, id int64 }
	told := map[key]impl.Notice{}
	for _, n := range d.Told {
		told[key{n.Place, n.Id}] = n
	}
	var news []impl.Notice
	next := impl.Desk{Places: d.Places, Last: d.Last}
	for place, p := range d.Places {
		for _, w := range d.Last {
			at := key{int64(place), w.Id}
			was, there := told[at]
			level := levelBySteps(w, p, now)
			changed := was.Version != w.Version || was.Level != level
			silent := was.Level == 0 && level == 0
			switch {
			case changed && !silent:
				was = noticeOf(at.place, at.id, w.Version, level)
				news = append(news, was)
			case there:
				was.Version = w.Version
			default:
				continue
			}
			next.Told = append(next.Told, was)
		}
	}
	return next, news
}

func notifyIs(t *testing.T, d impl.Desk, now int64) (impl.Desk, []impl.Notice) {
	t.Helper()
	want, news := notifyBySteps(d, now)
	got, told := impl.Notify(d, now)
	if !sameDesk(got, want) || !slices.Equal(told, news) {
		t.Fatalf("Notify(%v, %d) = %v, %v and not %v, %v", d, now, got, told, want, news)
	}
	return got, told
}

func TestNotifyByHand(t *testing.T) {
	for _, c := range []struct {
		now        int64
		told, news []impl.Notice
	}{
		{99, []impl.Notice{noticeOf(0, 10, 3, 0), noticeOf(0, 20, 5, 0), noticeOf(1, 20, 5, 0), noticeOf(1, 30, 1, 0), noticeOf(2, 10, 3, 0)}, []impl.Notice{noticeOf(0, 10, 3, 0), noticeOf(0, 20, 5, 0), noticeOf(1, 30, 1, 0), noticeOf(2, 10, 3, 0)}},
		{100, []impl.Notice{noticeOf(0, 10, 3, 2), noticeOf(0, 20, 5, 0), noticeOf(1, 20, 5, 0), noticeOf(1, 30, 1, 1), noticeOf(2, 10, 3, 0)}, []impl.Notice{noticeOf(0, 20, 5, 0), noticeOf(2, 10, 3, 0)}},
		{149, []impl.Notice{noticeOf(0, 10, 3, 2), noticeOf(0, 20, 5, 0), noticeOf(1, 20, 5, 0), noticeOf(1, 30, 1, 1), noticeOf(2, 10, 3, 0)}, []impl.Notice{noticeOf(0, 20, 5, 0), noticeOf(2, 10, 3, 0)}},
		{150, []impl.Notice{noticeOf(0, 10, 3, 2), noticeOf(0, 20, 5, 4), noticeOf(1, 20, 5, 4), noticeOf(1, 30, 1, 1), noticeOf(2, 10, 3, 0)}, []impl.Notice{noticeOf(0, 20, 5, 4), noticeOf(1, 20, 5, 4), noticeOf(2, 10, 3, 0)}},
		{199, []impl.Notice{noticeOf(0, 10, 3, 2), noticeOf(0, 20, 5, 4), noticeOf(1, 20, 5, 4), noticeOf(1, 30, 1, 1), noticeOf(2, 10, 3, 0)}, []impl.Notice{noticeOf(0, 20, 5, 4), noticeOf(1, 20, 5, 4), noticeOf(2, 10, 3, 0)}},
		{200, []impl.Notice{noticeOf(0, 10, 3, 0), noticeOf(0, 20, 5, 4), noticeOf(1, 20, 5, 4), noticeOf(1, 30, 1, 1), noticeOf(2, 10, 3, 0)}, []impl.Notice{noticeOf(0, 10, 3, 0), noticeOf(0, 20, 5, 4), noticeOf(1, 20, 5, 4), noticeOf(2, 10, 3, 0)}},
		{300, []impl.Notice{noticeOf(0, 10, 3, 0), noticeOf(0, 20, 5, 0), noticeOf(1, 20, 5, 0), noticeOf(1, 30, 1, 0), noticeOf(2, 10, 3, 0)}, []impl.Notice{noticeOf(0, 10, 3, 0), noticeOf(0, 20, 5, 0), noticeOf(1, 30, 1, 0), noticeOf(2, 10, 3, 0)}},
	} {
		want := busyDesk()
		want.Told = c.told
		got, news := impl.Notify(busyDesk(), c.now)
		if !sameDesk(got, want) || !slices.Equal(news, c.news) {
			t.Errorf("at %d: %v, %v", c.now, got.Told, news)
		}
	}
}

// One place and one warning: what is told of each state, behind each that was told.
func TestOneNotice(t *testing.T) {
	for _, c := range []struct {
		name       string
		was        []impl.Notice
		version    int64
		level, now int64
		gone       bool
		told, news []impl.Notice
	}{
		{"from then on", nil, 1, 3, 100, false, []impl.Notice{noticeOf(0, 7, 1, 3)}, []impl.Notice{noticeOf(0, 7, 1, 3)}},
		{"ahead of its time", nil, 1, 3, 99, false, nil, nil}, {"in its last minute", nil, 1, 3, 199, false, []impl.Notice{noticeOf(0, 7, 1, 3)}, []impl.Notice{noticeOf(0, 7, 1, 3)}}, {"behind its time", nil, 1, 3, 200, false, nil, nil}, {"later", nil, 1, 3, 201, false, nil, nil}, {"gone, never told", nil, 1, 3, 150, true, nil, nil},
		{"told already", []impl.Notice{noticeOf(0, 7, 1, 3)}, 1, 3, 150, false, []impl.Notice{noticeOf(0, 7, 1, 3)}, nil}, {"a newer version of the same level", []impl.Notice{noticeOf(0, 7, 1, 3)}, 2, 3, 150, false, []impl.Notice{noticeOf(0, 7, 2, 3)}, []impl.Notice{noticeOf(0, 7, 2, 3)}}, {"of another level", []impl.Notice{noticeOf(0, 7, 1, 3)}, 2, 5, 150, false, []impl.Notice{noticeOf(0, 7, 2, 5)}, []impl.Notice{noticeOf(0, 7, 2, 5)}}, {"the same version, of another level", []impl.Notice{noticeOf(0, 7, 2, 4)}, 2, 3, 150, false, []impl.Notice{noticeOf(0, 7, 2, 3)}, []impl.Notice{noticeOf(0, 7, 2, 3)}},
		{"it is over", []impl.Notice{noticeOf(0, 7, 1, 3)}, 1, 3, 200, false, []impl.Notice{noticeOf(0, 7, 1, 0)}, []impl.Notice{noticeOf(0, 7, 1, 0)}}, {"it is gone", []impl.Notice{noticeOf(0, 7, 1, 3)}, 2, 3, 150, true, []impl.Notice{noticeOf(0, 7, 2, 0)}, []impl.Notice{noticeOf(0, 7, 2, 0)}}, {"not yet any more", []impl.Notice{noticeOf(0, 7, 1, 3)}, 9, 3, 99, false, []impl.Notice{noticeOf(0, 7, 9, 0)}, []impl.Notice{noticeOf(0, 7, 9, 0)}},
		{"0 told and 0 there", []impl.Notice{noticeOf(0, 7, 1, 0)}, 1, 3, 200, false, []impl.Notice{noticeOf(0, 7, 1, 0)}, nil}, {"0 told, 0 there, newer", []impl.Notice{noticeOf(0, 7, 1, 0)}, 8, 3, 200, false, []impl.Notice{noticeOf(0, 7, 8, 0)}, nil}, {"0 told, gone, newer", []impl.Notice{noticeOf(0, 7, 1, 0)}, 8, 3, 150, true, []impl.Notice{noticeOf(0, 7, 8, 0)}, nil}, {"there again", []impl.Notice{noticeOf(0, 7, 1, 0)}, 1, 3, 150, false, []impl.Notice{noticeOf(0, 7, 1, 3)}, []impl.Notice{noticeOf(0, 7, 1, 3)}}, {"there again, newer", []impl.Notice{noticeOf(0, 7, 1, 0)}, 2, 3, 150, false, []impl.Notice{noticeOf(0, 7, 2, 3)}, []impl.Notice{noticeOf(0, 7, 2, 3)}},
	} {
		w := warningOf(7, c.version, c.level, squareOf(0, 0, 10), 100, 200)
		w.Gone = c.gone
		d := impl.Desk{Places: spotsAt(5, 5), Last: []impl.Warning{w}, Told: c.was}
		got, news := notifyIs(t, d, c.now)
		if !slices.Equal(got.Told, c.told) || !slices.Equal(news, c.news) {
			t.Errorf("%s: %v, %v", c.name, got.Told, news)
		}
	}
	out := impl.Desk{Places: spotsAt(10, 5, 5, 5), Last: []impl.Warning{warningOf(7, 1, 3, squareOf(0, 0, 10), 100, 200)}}
	if got, news := notifyIs(t, out, 150); !slices.Equal(got.Told, []impl.Notice{noticeOf(1, 7, 1, 3)}) || !slices.Equal(news, got.Told) {
		t.Error("a place outside", got, news)
	}
}

func TestFullDesk(t *testing.T) {
	d, news := notifyIs(t, fullDesk(), 150)
	if len(news) != 1200 || len(d.Told) != 1200 {
		t.Error(len(news), "notices,", len(d.Told), "told")
	}
	if again, news := notifyIs(t, d, 151); len(news) != 0 || !sameDesk(again, d) {
		t.Error("told twice:", len(news))
	}
	if _, news := notifyIs(t, d, 200); len(news) != 1200 {
		t.Error("the last state:", len(news))
	}
}

func rolledWarning(d *dice) impl.Warning {
	w := warningOf(1+d.below(6), 1+d.below(40), 1+d.below(5), squareOf(d.below(12)-6, d.below(12)-6, 1+d.below(12)), d.below(60), 0)
	w.To = w.From + 1 + d.below(60)
	w.Gone = d.below(4) == 0
	if d.below(3) == 0 {
		w.Area = rolledArea(d, 8)
	}
	if d.below(12) == 0 {
		wrong := wrongWarnings()
		names := slices.Sorted(maps.Keys(wrong))
		w = wrong[names[d.below(int64(len(names)))]]
	}
	return w
}

// log is what a place was told of a warning, one behind the other.
type log map[[2]int64][]impl.Notice

// Promise 22: each place is told each state of a warning once, the last one too, none older behind a newer one.
func (l log) keepsTwentyTwo(t *testing.T, d impl.Desk, news []impl.Notice, now int64) {
	t.Helper()
	for _, n := range news {
		key := [2]int64{n.Place, n.Id}
		if told := l[key]; len(told) > 0 {
			last := told[len(told)-1]
			if n == last || n.Version < last.Version || n.Level == 0 && last.Level == 0 {
				t.Fatalf("%v behind %v", n, last)
			}
		} else if n.Level == 0 {
			t.Fatalf("%v, of which nothing was told", n)
		}
		l[key] = append(l[key], n)
	}
	// What was told last is what is there.
	for place, p := range d.Places {
		for _, w := range d.Last {
			level := levelBySteps(w, p, now)
			told := l[[2]int64{int64(place), w.Id}]
			if len(told) == 0 && level != 0 || len(told) > 0 && (told[len(told)-1].Level != level || level != 0 && told[len(told)-1].Version != w.Version) {
				t.Fatalf("at %d place %d knows %v of %v", now, place, told, w)
			}
		}
	}
}

func TestRolledDesks(t *testing.T) {
	d := dice(2204)
	told, refused := 0, map[int64]int{}
	for range 400 {
		desk := impl.Desk{}
		for range 1 + d.below(6) {
			desk.Places = append(desk.Places, spotAt(d.below(17)-8, d.below(17)-8))
		}
		notices, now := log{}, int64(0)
		for range 80 {
			if d.below(2) == 0 {
				next, code := announces(t, desk, rolledWarning(&d))
				refused[code]++
				desk = next
				continue
			}
			// Clocks that go back show no more than those that go on.
			now = max(0, now+d.below(9)-2)
			next, news := notifyIs(t, desk, now)
			notices.keepsTwentyTwo(t, next, news, now)
			if again, more := impl.Notify(next, now); len(more) != 0 || !sameDesk(again, next) {
				t.Fatalf("%v is told again", more)
			}
			told += len(news)
			desk = next
		}
	}
	if told < 2000 || refused[0] < 1500 || refused[impl.WnForm] < 300 || refused[impl.WnOld] < 1500 {
		t.Error(told, "told;", refused)
	}
}

// Promise 22: the order in which warnings came does not matter, neither for the desk nor for what is told of it.
func TestOrderOfWarnings(t *testing.T) {
	d := dice(2205)
	for range 500 {
		desk := busyDesk()
		var list []impl.Warning
		seen := map[[2]int64]bool{}
		for range 1 + d.below(30) {
			w := rolledWarning(&d)
			w.Id *= 1 + d.below(4)
			if key := [2]int64{w.Id, w.Version}; !seen[key] {
				seen[key], list = true, append(list, w)
			}
		}
		all := func(list []impl.Warning) impl.Desk {
			after := copyOfDesk(desk)
			for _, w := range list {
				after, _ = impl.Announce(after, w)
			}
			return after
		}
		want := all(list)
		for range 4 {
			if got := all(shuffled(&d, list)); !sameDesk(got, want) {
				t.Fatalf("%v in another order: %v and not %v", list, got, want)
			}
		}
		backwards := slices.Clone(list)
		slices.Reverse(backwards)
		now := d.below(300)
		first, news := impl.Notify(want, now)
		other, others := impl.Notify(all(backwards), now)
		if !sameDesk(first, other) || !slices.Equal(news, others) {
			t.Fatalf("%v backwards: %v and not %v", list, others, news)
		}
	}
}
