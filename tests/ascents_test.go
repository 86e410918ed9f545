package tests

import (
	"math"
	"math/big"
	"slices"
	"testing"

	"loop.example/g00051/impl"
)

// evenAscent has so many levels, all of one temperature, from 12000 down.
func evenAscent(count int) []impl.Level {
	levels := make([]impl.Level, count)
	for i := range levels {
		levels[i] = impl.Level{Press: 12000 - int64(i), Temp: 1}
	}
	return levels
}

// warmths is an ascent of these temperatures, 100 from one to the next.
func warmths(temps ...float64) []impl.Level {
	levels := make([]impl.Level, len(temps))
	for i, x := range temps {
		levels[i] = impl.Level{Press: 10000 - 100*int64(i), Temp: x}
	}
	return levels
}

// rolledAscent has coarse temperatures now and then, so that many departures are equal.
func rolledAscent(d *dice) []impl.Level {
	levels := make([]impl.Level, 2+d.below(40))
	if d.below(50) == 0 {
		levels = make([]impl.Level, impl.MaxLevels)
	}
	coarse := d.below(3)
	press := int64(12001)
	for i := range levels {
		left := press - int64(len(levels)-i)
		press -= 1 + d.below(min(left, 400)) // some room stays for those behind it
		temp := float64(d.below(400001)-200000) / 1000
		switch coarse {
		case 0:
			temp = float64(d.below(5) - 2)
		case 1:
			temp = float64(d.below(41)-20) / 10
		}
		levels[i] = impl.Level{Press: press, Temp: temp}
	}
	return levels
}

func wrongAscents() map[string][]impl.Level {
	with := func(at int, l impl.Level) []impl.Level {
		levels := warmths(5, 4, 3, 2)
		levels[at] = l
		return levels
	}
	wrong := map[string][]impl.Level{
		"nil": nil, "empty": {}, "one": evenAscent(1), "401": evenAscent(401), "5000": evenAscent(5000),
		"0 at the end": with(3, impl.Level{Press: 0, Temp: 2}), "below 0": with(3, impl.Level{Press: -1, Temp: 2}), "12001": with(0, impl.Level{Press: 12001, Temp: 2}),
		"far up": with(0, impl.Level{Press: math.MaxInt64, Temp: 2}), "far down": with(3, impl.Level{Press: math.MinInt64, Temp: 2}),
		"equal": with(1, impl.Level{Press: 10000, Temp: 2}), "equal at the end": with(3, impl.Level{Press: 9800, Temp: 2}), "rising": with(2, impl.Level{Press: 9950, Temp: 2}), "rising at the end": with(3, impl.Level{Press: 9801, Temp: 2}),
		"two alike": {{Press: 500, Temp: 1}, {Press: 500, Temp: 1}}, "two rising": {{Press: 500, Temp: 1}, {Press: 501, Temp: 1}}, "1 and 0": {{Press: 1, Temp: 1}, {Press: 0, Temp: 1}},
	}
	for name, x := range map[string]float64{
		"missing": none, "another missing": payload, "high": high, "low": low, "200.5": 200.5, "beside 200": math.Nextafter(200, high), "beside -200": math.Nextafter(-200, low), "most": most, "-most": -most,
	} {
		wrong[name+", first"] = with(0, impl.Level{Press: 10000, Temp: x})
		wrong[name+", inside"] = with(2, impl.Level{Press: 9800, Temp: x})
		wrong[name+", last"] = with(3, impl.Level{Press: 9700, Temp: x})
	}
	return wrong
}

func rightAscents() map[string][]impl.Level {
	return map[string][]impl.Level{
		"two": evenAscent(2), "three": evenAscent(3), "400": evenAscent(400), "12000 and 1": {{Press: 12000, Temp: 1}, {Press: 1, Temp: 1}}, "2 and 1": {{Press: 2, Temp: 0}, {Press: 1, Temp: below0}},
		"the limits": {{Press: 10000, Temp: 200}, {Press: 9000, Temp: -200}}, "beside them": {{Press: 10000, Temp: math.Nextafter(200, 0)}, {Press: 9999, Temp: math.Nextafter(-200, 0)}},
		"steps": warmths(20, 15, 18, 5, 0),
	}
}

func TestAscentOk(t *testing.T) {
	for name, levels := range rightAscents() {
		if !impl.AscentOk(levels) {
			t.Errorf("%s: is one", name)
		}
	}
	for name, levels := range wrongAscents() {
		if impl.AscentOk(levels) {
			t.Errorf("%s: is none", name)
		}
	}
}

// The one answer of each function to levels that are no ascent.
func TestNoAscent(t *testing.T) {
	for name, levels := range wrongAscents() {
		if places := impl.Signif(levels, 1); len(places) != 0 {
			t.Errorf("%s: significant %v", name, places)
		}
		for _, press := range []int64{10000, 9950, 9900, 9700, 12000, 500, 1, 0} {
			if x := impl.Rebuild(levels, press); x == x {
				t.Errorf("%s: rebuilt %v at %d", name, x, press)
			}
		}
		if runs := impl.Inversions(levels); len(runs) != 0 {
			t.Errorf("%s: inversions %v", name, runs)
		}
		if at, x := impl.LapseMost(levels); at != -1 || !sameFloat(x, 0) {
			t.Errorf("%s: lapse %d, %v", name, at, x)
		}
	}
}

func TestBetween(t *testing.T) {
	const far, deep = math.MaxInt64, math.MinInt64
	for _, c := range []struct {
		a, b  impl.Level
		press int64
		want  float64
	}{
		{impl.Level{Press: 10000, Temp: 20}, impl.Level{Press: 9000, Temp: 15}, 9500, 17.5},
		{impl.Level{Press: 9000, Temp: 15}, impl.Level{Press: 10000, Temp: 20}, 9500, 17.5},
		{impl.Level{Press: 10000, Temp: 20}, impl.Level{Press: 9000, Temp: 15}, 10000, 20},
		{impl.Level{Press: 10000, Temp: 20}, impl.Level{Press: 9000, Temp: 15}, 9000, 15},
		{impl.Level{Press: 10000, Temp: 20}, impl.Level{Press: 9000, Temp: 15}, 9999, 19.995},
		{impl.Level{Press: 10000, Temp: 20}, impl.Level{Press: 9000, Temp: 15}, 9001, 15.004999999999999},
		{impl.Level{Press: 9000, Temp: 15}, impl.Level{Press: 10000, Temp: 20}, 9999, 19.995},
		{impl.Level{Press: 10000, Temp: 20}, impl.Level{Press: 9000, Temp: 15}, 10001, none},
		{impl.Level{Press: 10000, Temp: 20}, impl.Level{Press: 9000, Temp: 15}, 8999, none},
		{impl.Level{Press: 9000, Temp: 15}, impl.Level{Press: 10000, Temp: 20}, 8999, none},
		{impl.Level{Press: 9000, Temp: 15}, impl.Level{Press: 10000, Temp: 20}, 10001, none},
		// At one and the same pressure it is the first.
		{impl.Level{Press: 9000, Temp: 15}, impl.Level{Press: 9000, Temp: 20}, 9000, 15},
		{impl.Level{Press: 9000, Temp: 15}, impl.Level{Press: 9000, Temp: 20}, 9001, none},
		// Nor need the temperatures be known.
		{impl.Level{Press: 9000, Temp: none}, impl.Level{Press: 8000, Temp: 20}, 8000, 20},
		{impl.Level{Press: 9000, Temp: none}, impl.Level{Press: 8000, Temp: 20}, 9000, none},
		{impl.Level{Press: 9000, Temp: none}, impl.Level{Press: 8000, Temp: 20}, 8500, none},
		{impl.Level{Press: 9000, Temp: high}, impl.Level{Press: 8000, Temp: 20}, 9000, high},
		{impl.Level{Press: 9000, Temp: 20}, impl.Level{Press: 8000, Temp: low}, 8500, low},
		{impl.Level{Press: 9000, Temp: below0}, impl.Level{Press: 8000, Temp: 1}, 9000, below0},
		// The limits.
		{impl.Level{Press: 12000, Temp: 4}, impl.Level{Press: 0, Temp: 8}, 6000, 6},
		{impl.Level{Press: 0, Temp: 4}, impl.Level{Press: 12000, Temp: 8}, 3000, 5},
		{impl.Level{Press: -12000, Temp: 4}, impl.Level{Press: 0, Temp: 8}, -3000, 7},
		{impl.Level{Press: 6000, Temp: 4}, impl.Level{Press: -6000, Temp: 8}, 0, 6},
		{impl.Level{Press: 12001, Temp: 4}, impl.Level{Press: 1, Temp: 8}, 6000, none},
		{impl.Level{Press: 1, Temp: 4}, impl.Level{Press: 12001, Temp: 8}, 6000, none},
		{impl.Level{Press: 12001, Temp: 4}, impl.Level{Press: 12000, Temp: 8}, 12001, 4},
		{impl.Level{Press: 12003, Temp: 4}, impl.Level{Press: 12000, Temp: 8}, 12001, none},
		{impl.Level{Press: -12001, Temp: 4}, impl.Level{Press: -11999, Temp: 8}, -12000, none},
		{impl.Level{Press: -11999, Temp: 4}, impl.Level{Press: -12001, Temp: 8}, -12000, none},
		{impl.Level{Press: 12000, Temp: 4}, impl.Level{Press: -1, Temp: 8}, 6000, none},
		{impl.Level{Press: -1, Temp: 4}, impl.Level{Press: 12000, Temp: 8}, 6000, none},
		{impl.Level{Press: 6001, Temp: 4}, impl.Level{Press: -6000, Temp: 8}, 0, none},
		{impl.Level{Press: far, Temp: 4}, impl.Level{Press: deep, Temp: 8}, 0, none},
		{impl.Level{Press: deep, Temp: 4}, impl.Level{Press: far, Temp: 8}, 0, none},
		{impl.Level{Press: far, Temp: 4}, impl.Level{Press: deep, Temp: 8}, far, 4},
		{impl.Level{Press: far, Temp: 4}, impl.Level{Press: deep, Temp: 8}, deep, 8},
		{impl.Level{Press: far, Temp: 4}, impl.Level{Press: far - 2, Temp: 8}, far - 1, none},
		{impl.Level{Press: deep, Temp: 4}, impl.Level{Press: deep + 2, Temp: 8}, deep + 1, none},
		{impl.Level{Press: 100, Temp: 4}, impl.Level{Press: 50, Temp: 8}, far, none},
		{impl.Level{Press: 100, Temp: 4}, impl.Level{Press: 50, Temp: 8}, deep, none},
		{impl.Level{Press: 0, Temp: 4}, impl.Level{Press: deep, Temp: 8}, -5, none},
		{impl.Level{Press: deep, Temp: 4}, impl.Level{Press: 0, Temp: 8}, -5, none},
	} {
		if got := impl.Between(c.a, c.b, c.press); !sameFloat(got, c.want) {
			t.Errorf("Between(%v, %v, %d) = %v, not %v", c.a, c.b, c.press, got, c.want)
		}
	}
}

// betweenBySteps rounds each operation through big numbers, so that none is fused.
func betweenBySteps(a, b impl.Level, press int64) float64 {
	up := func(x float64) *big.Float { return new(big.Float).SetPrec(2000).SetFloat64(x) }
	down := func(x *big.Float) float64 { f, _ := x.Float64(); return f }
	q := float64(a.Press-press) / float64(a.Press-b.Press)
	rise := down(new(big.Float).Sub(up(b.Temp), up(a.Temp)))
	part := down(new(big.Float).Mul(up(rise), up(q)))
	return down(new(big.Float).Add(up(a.Temp), up(part)))
}

func TestBetweenStepByStep(t *testing.T) {
	d := dice(61)
	for range 20000 {
		a := impl.Level{Press: d.below(12001), Temp: 1 + float64(d.below(1<<40))/float64(int64(1)<<34)}
		b := impl.Level{Press: d.below(12001), Temp: 1 + float64(d.below(1<<40))/float64(int64(1)<<34)}
		press := d.below(12001)
		got := impl.Between(a, b, press)
		switch {
		case press == a.Press:
			if got != a.Temp {
				t.Fatal(a, b, press, got)
			}
		case press == b.Press:
			if got != b.Temp {
				t.Fatal(a, b, press, got)
			}
		case press < min(a.Press, b.Press) || press > max(a.Press, b.Press):
			if got == got {
				t.Fatal(a, b, press, got)
			}
		case got != betweenBySteps(a, b, press):
			t.Fatalf("Between(%v, %v, %d) = %v", a, b, press, got)
		}
	}
}

// signifBySteps finds one level at a time among all gaps, and puts it in its place.
func signifBySteps(levels []impl.Level, tol float64) []int64 {
	found := []int64{0, int64(len(levels) - 1)}
	for gap := 0; gap+1 < len(found); {
		first, last := levels[found[gap]], levels[found[gap+1]]
		best := int64(-1)
		departure := func(i int64) float64 {
			return math.Abs(levels[i].Temp - impl.Between(first, last, levels[i].Press))
		}
		for i := found[gap] + 1; i < found[gap+1]; i++ {
			if departure(i) > tol && (best < 0 || departure(i) > departure(best)) {
				best = i
			}
		}
		if best < 0 {
			gap++
			continue
		}
		found = slices.Insert(found, gap+1, best)
	}
	return found
}

func TestSignifByHand(t *testing.T) {
	levels := warmths(20, 15, 18, 5, 0)
	for _, c := range []struct {
		levels []impl.Level
		tol    float64
		want   []int64
	}{
		{levels, 8, []int64{0, 4}}, {levels, math.Nextafter(8, 0), []int64{0, 2, 4}}, {levels, 4, []int64{0, 2, 4}}, {levels, math.Nextafter(4, 0), []int64{0, 1, 2, 3, 4}},
		{levels, 0, []int64{0, 1, 2, 3, 4}}, {levels, below0, []int64{0, 1, 2, 3, 4}}, {levels, most, []int64{0, 4}}, {levels, least, []int64{0, 1, 2, 3, 4}},
		{warmths(4, 3, 2, 1, 0), 0, []int64{0, 4}}, {warmths(1, 1, 1, 1), 0, []int64{0, 3}}, {warmths(1, 2), 0, []int64{0, 1}}, {warmths(0, below0, 0), 0, []int64{0, 2}},
		{evenAscent(400), 0, []int64{0, 399}},
		// Levels that depart as much as one another: the first, on whichever side they lie.
		{warmths(0, 2, 2, 0), 1.5, []int64{0, 1, 3}}, {warmths(0, 2, -2, 0), 1.5, []int64{0, 1, 2, 3}}, {warmths(0, -2, 2, 2, 2, 0), 1.9, []int64{0, 1, 2, 5}},
		{warmths(0, 1, 3, 3, 1, 0), 1.75, []int64{0, 2, 5}}, {warmths(0, 0, 5, 0, 0, 5, 0), 4, []int64{0, 2, 6}}, {warmths(0, 0, 5, 0, 0, 5, 0), 3.7, []int64{0, 2, 3, 5, 6}},
	} {
		if got := impl.Signif(c.levels, c.tol); !slices.Equal(got, c.want) {
			t.Errorf("Signif(%v, %v) = %v, not %v", c.levels, c.tol, got, c.want)
		}
	}
	for _, tol := range []float64{-least, -1, none, payload, high, low, -most} {
		if got := impl.Signif(levels, tol); len(got) != 0 {
			t.Errorf("tol %v: %v", tol, got)
		}
	}
}

// zigzag departs most at its last inner level each time, so that the choosing goes as deep as it can.
func zigzag() []impl.Level {
	levels := evenAscent(impl.MaxLevels)
	for i := range levels {
		levels[i].Temp = float64(i%2*2-1) * float64(i+1) / 4
	}
	return levels
}

func TestSignifStepByStep(t *testing.T) {
	d := dice(62)
	for range 1500 {
		levels := rolledAscent(&d)
		if !impl.AscentOk(levels) {
			t.Fatal("no ascent was rolled", levels)
		}
		tol := []float64{0, 0.1, 0.5, 1, 2, float64(d.below(100000)) / 1000}[d.below(6)]
		if got, want := impl.Signif(levels, tol), signifBySteps(levels, tol); !slices.Equal(got, want) {
			t.Fatalf("Signif(%v, %v) = %v, not %v", levels, tol, got, want)
		}
	}
	for _, tol := range []float64{0, 10, 60, 99} {
		if got, want := impl.Signif(zigzag(), tol), signifBySteps(zigzag(), tol); !slices.Equal(got, want) {
			t.Errorf("a zigzag at %v: %v, not %v", tol, got, want)
		}
	}
}

func chosen(levels []impl.Level, places []int64) []impl.Level {
	var list []impl.Level
	for _, at := range places {
		list = append(list, levels[at])
	}
	return list
}

// Promise 6: from its significant levels an ascent is rebuilt within the tolerance.
func TestRebuiltWithinTheTolerance(t *testing.T) {
	d := dice(63)
	for range 1500 {
		levels := rolledAscent(&d)
		for _, tol := range []float64{0, 0.3, 1, 2, float64(d.below(200000)) / 1000} {
			few := chosen(levels, impl.Signif(levels, tol))
			for _, l := range levels {
				if x := impl.Rebuild(few, l.Press); !(math.Abs(l.Temp-x) <= tol) {
					t.Fatalf("%v at %v: %v for %v", levels, tol, x, l)
				}
			}
		}
	}
}

// Promise 6: a greater tolerance chooses no other levels.
func TestGreaterToleranceNoOtherLevels(t *testing.T) {
	d := dice(64)
	for range 1500 {
		levels := rolledAscent(&d)
		tol := float64(0)
		finer := impl.Signif(levels, tol)
		for range 12 {
			tol += float64(d.below(3000)) / 1000
			coarser := impl.Signif(levels, tol)
			for i, at := range coarser {
				if !slices.Contains(finer, at) || i > 0 && coarser[i-1] >= at {
					t.Fatalf("%v at %v: %v, before %v", levels, tol, coarser, finer)
				}
			}
			if len(coarser) < 2 || coarser[0] != 0 || coarser[len(coarser)-1] != int64(len(levels)-1) {
				t.Fatalf("%v at %v: %v", levels, tol, coarser)
			}
			finer = coarser
		}
	}
}

func TestRebuild(t *testing.T) {
	levels := []impl.Level{{Press: 10000, Temp: 20}, {Press: 9000, Temp: 15}, {Press: 8000, Temp: 18}, {Press: 7000, Temp: 5}, {Press: 6000, Temp: 0}}
	for press, want := range map[int64]float64{
		10000: 20, 9999: 19.995, 9500: 17.5, 9001: 15.004999999999999, 9000: 15, 8999: 15.003, 8500: 16.5, 8000: 18, 7500: 11.5, 7000: 5, 6500: 2.5, 6001: 0.004999999999999893, 6000: 0,
		10001: none, 5999: none, 0: none, -9500: none, 12001: none, math.MaxInt64: none, math.MinInt64: none,
	} {
		if got := impl.Rebuild(levels, press); !sameFloat(got, want) {
			t.Errorf("at %d: %v, not %v", press, got, want)
		}
	}
	d := dice(65)
	for range 500 {
		levels := rolledAscent(&d)
		for i := range len(levels) - 1 {
			a, b := levels[i], levels[i+1]
			for _, press := range []int64{a.Press, b.Press, (a.Press + b.Press) / 2, b.Press + d.below(a.Press-b.Press)} {
				if got := impl.Rebuild(levels, press); !sameFloat(got, impl.Between(a, b, press)) {
					t.Fatalf("%v at %d: %v", levels, press, got)
				}
			}
		}
		if x, y := impl.Rebuild(levels, levels[0].Press+1), impl.Rebuild(levels, levels[len(levels)-1].Press-1); x == x || y == y {
			t.Fatal("beyond its ends", x, y)
		}
	}
	if got := impl.Rebuild([]impl.Level{{Press: 2, Temp: below0}, {Press: 1, Temp: below0}}, 1); !sameFloat(got, below0) {
		t.Error("the level's own number", got)
	}
}

func TestInversions(t *testing.T) {
	for _, c := range []struct {
		levels []impl.Level
		want   []impl.Span
	}{
		{warmths(20, 15, 18, 5, 0), []impl.Span{{From: 1, To: 2}}}, {warmths(1, 2), []impl.Span{{From: 0, To: 1}}}, {warmths(2, 1), nil}, {warmths(1, 1), nil},
		{warmths(1, 2, 3, 4), []impl.Span{{From: 0, To: 3}}}, {warmths(4, 3, 2, 1), nil}, {warmths(1, 1, 1, 1), nil}, {warmths(below0, 0, below0), nil},
		{warmths(1, 2, 2, 3), []impl.Span{{From: 0, To: 1}, {From: 2, To: 3}}}, {warmths(1, 2, 1, 2), []impl.Span{{From: 0, To: 1}, {From: 2, To: 3}}},
		{warmths(3, 1, 2, 3, 0, 1), []impl.Span{{From: 1, To: 3}, {From: 4, To: 5}}}, {warmths(1, 2, 3, 3, 3), []impl.Span{{From: 0, To: 2}}}, {warmths(3, 3, 3, 4, 4), []impl.Span{{From: 2, To: 3}}},
		{warmths(1, math.Nextafter(1, 2), 1), []impl.Span{{From: 0, To: 1}}}, {evenAscent(400), nil},
	} {
		if got := impl.Inversions(c.levels); !slices.Equal(got, c.want) {
			t.Errorf("Inversions(%v) = %v", c.levels, got)
		}
	}
	all := evenAscent(400)
	for i := range all {
		all[i].Temp = float64(i) / 2
	}
	if got := impl.Inversions(all); !slices.Equal(got, []impl.Span{{From: 0, To: 399}}) {
		t.Error("of all levels", got)
	}
}

// The runs are those pairs of places between which all rises, and beyond which nothing does.
func TestInversionsPairByPair(t *testing.T) {
	d := dice(66)
	for range 400 {
		levels := rolledAscent(&d)
		if len(levels) > 42 {
			continue
		}
		rises := func(i int) bool {
			return i > 0 && i < len(levels) && levels[i].Temp > levels[i-1].Temp
		}
		var want []impl.Span
		for from := range levels {
			for to := from + 1; to < len(levels) && rises(to); to++ {
				if !rises(from) && !rises(to+1) {
					want = append(want, impl.Span{From: int64(from), To: int64(to)})
				}
			}
		}
		if got := impl.Inversions(levels); !slices.Equal(got, want) {
			t.Fatalf("Inversions(%v) = %v, not %v", levels, got, want)
		}
	}
}

func TestLapseMost(t *testing.T) {
	for _, c := range []struct {
		levels []impl.Level
		at     int64
		want   float64
	}{
		{warmths(20, 15, 18, 5, 0), 2, 0.13}, {warmths(1, 2), 0, -0.01}, {warmths(2, 1), 0, 0.01}, {warmths(1, 1), 0, 0}, {warmths(1, 2, 4, 5, 9), 0, -0.01}, {warmths(1, 5, 6, 9), 1, -0.01},
		{warmths(9, 5, 7, 3, 4, 0), 0, 0.04}, {warmths(1, 2, 2, 2), 1, 0}, {warmths(0, 0, 0), 0, 0}, {warmths(5, 4, 3, 0), 2, 0.03}, {warmths(200, -200), 0, 4},
		{warmths(below0, 0, 0), 0, below0}, {warmths(0, 0, below0, 0), 0, 0},
		// The quotient counts, not the fall.
		{[]impl.Level{{Press: 10000, Temp: 20}, {Press: 9000, Temp: 10}, {Press: 8999, Temp: 9}}, 1, 1},
		{[]impl.Level{{Press: 10000, Temp: 20}, {Press: 9990, Temp: 10}, {Press: 9989, Temp: 9}}, 0, 1},
		{[]impl.Level{{Press: 12000, Temp: 3}, {Press: 1, Temp: 2}}, 0, 1.0 / 11999},
	} {
		if at, x := impl.LapseMost(c.levels); at != c.at || !sameFloat(x, c.want) {
			t.Errorf("LapseMost(%v) = %d, %v", c.levels, at, x)
		}
	}
	if at, x := impl.LapseMost(evenAscent(400)); at != 0 || !sameFloat(x, 0) {
		t.Error("400 levels", at, x)
	}
	d := dice(67)
	for range 1000 {
		levels := rolledAscent(&d)
		at, x := impl.LapseMost(levels)
		for i := range len(levels) - 1 {
			lapse := (levels[i].Temp - levels[i+1].Temp) / float64(levels[i].Press-levels[i+1].Press)
			if lapse > x || lapse == x && int64(i) < at || int64(i) == at && !sameFloat(lapse, x) {
				t.Fatalf("LapseMost(%v) = %d, %v; at %d %v", levels, at, x, i, lapse)
			}
		}
		if at < 0 || at > int64(len(levels)-2) {
			t.Fatalf("LapseMost(%v) = %d, %v", levels, at, x)
		}
	}
}
