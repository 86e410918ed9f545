package tests

import (
	"fmt"
	"math"
	"math/big"
	"slices"
	"strconv"
	"strings"
	"testing"

	"loop.example/g00051/impl"
)

func TestModelNumbers(t *testing.T) {
	if impl.MaxRing != 200 || impl.MaxMass != 1000000000 {
		t.Error(impl.MaxRing, impl.MaxMass)
	}
}

func ringOf(mass, tracer []int64) impl.Ring {
	return impl.Ring{Mass: mass, Tracer: tracer}
}

func sameRing(a, b impl.Ring) bool {
	return slices.Equal(a.Mass, b.Mass) && slices.Equal(a.Tracer, b.Tracer)
}

// edgeRings are right, each at some limit.
func edgeRings() []impl.Ring {
	const most = impl.MaxMass
	return []impl.Ring{
		ringOf([]int64{0}, []int64{0}), ringOf([]int64{1}, []int64{0}), ringOf([]int64{1}, []int64{1}), ringOf([]int64{most}, []int64{0}), ringOf([]int64{most}, []int64{most}), ringOf([]int64{most}, []int64{most - 1}),
		ringOf([]int64{most, 0}, []int64{most, 0}), ringOf([]int64{0, most}, []int64{0, 7}), ringOf([]int64{most - 1, 1}, []int64{most - 1, 1}), ringOf([]int64{7, 8}, []int64{7, 0}),
		ringOf([]int64{0, most, 0}, []int64{0, most, 0}), ringOf([]int64{most / 2, 0, most / 2}, []int64{most / 2, 0, 1}),
		ringOf(times(200, int64(0)), times(200, int64(0))), ringOf(times(200, int64(most/200)), times(200, int64(most/200))), ringOf(times(199, int64(5)), times(199, int64(5))), ringOf(riseFrom(0, 200), riseFrom(0, 200)),
	}
}

// wrongRings are a step off what is right, in each way that the chapter names.
func wrongRings() map[string]impl.Ring {
	const most = impl.MaxMass
	wrong := map[string]impl.Ring{
		"zero": {}, "no cells": ringOf([]int64{}, []int64{}), "201": ringOf(times(201, int64(1)), times(201, int64(1))), "201 of nothing": ringOf(times(201, int64(0)), times(201, int64(0))), "5000": ringOf(times(5000, int64(1)), times(5000, int64(0))),
		"no Mass": ringOf(nil, []int64{0}), "no Tracer": ringOf([]int64{0}, nil), "a Mass more": ringOf([]int64{1, 1}, []int64{1}), "a Tracer more": ringOf([]int64{1}, []int64{1, 1}), "a Tracer of 0 more": ringOf([]int64{1}, []int64{1, 0}),
		"200 and 201": ringOf(times(200, int64(1)), times(201, int64(1))), "201 and 200": ringOf(times(201, int64(1)), times(200, int64(1))), "200 and 199": ringOf(times(200, int64(1)), times(199, int64(1))),
		"Mass -1": ringOf([]int64{-1}, []int64{0}), "both -1": ringOf([]int64{-1}, []int64{-1}), "Mass -1 and a lower Tracer": ringOf([]int64{-1}, []int64{-2}), "Tracer -1": ringOf([]int64{5}, []int64{-1}), "the last Mass -1": ringOf([]int64{5, 5, -1}, []int64{0, 0, 0}), "the last Tracer -1": ringOf([]int64{5, 5, 5}, []int64{0, 0, -1}),
		"Tracer above": ringOf([]int64{5}, []int64{6}), "Tracer above nothing": ringOf([]int64{0}, []int64{1}), "the first above": ringOf([]int64{5, 5}, []int64{6, 0}), "the last above": ringOf([]int64{5, 5}, []int64{0, 6}), "less in all, but one above": ringOf([]int64{5, 0}, []int64{0, 1}),
		"one cell of more": ringOf([]int64{most + 1}, []int64{0}), "two with more": ringOf([]int64{most, 1}, []int64{0, 0}), "200 with more": ringOf(append(times(199, int64(most/200)), most/200+1), times(200, int64(0))), "made up for by one below": ringOf([]int64{most + 1, -1}, []int64{0, 0}),
		"greatest": ringOf([]int64{math.MaxInt64}, []int64{0}), "greatest both": ringOf([]int64{math.MaxInt64}, []int64{math.MaxInt64}), "least": ringOf([]int64{math.MinInt64}, []int64{0}), "least Tracer": ringOf([]int64{5}, []int64{math.MinInt64}), "greatest Tracer": ringOf([]int64{5}, []int64{math.MaxInt64}),
		"wraps to -2": ringOf([]int64{math.MaxInt64, math.MaxInt64}, []int64{0, 0}), "wraps to 0": ringOf([]int64{math.MaxInt64, math.MaxInt64, 2}, []int64{0, 0, 0}), "wraps to 1": ringOf([]int64{math.MaxInt64, math.MaxInt64, 3}, []int64{1, 0, 0}), "four wrap to 0": ringOf(times(4, int64(1<<62)), times(4, int64(0))), "128 wrap to 0": ringOf(times(128, int64(1<<57)), times(128, int64(0))),
		"just the greatest together": ringOf([]int64{math.MaxInt64 - 5, 5}, []int64{0, 0}), "greatest and least": ringOf([]int64{math.MaxInt64, math.MinInt64}, []int64{0, 0}),
	}
	for _, n := range []int{2, 3, 199, 200} {
		for _, at := range []int{0, n / 2, n - 1} {
			mass, tracer := times(n, int64(9)), times(n, int64(9))
			tracer[at] = 10
			wrong[fmt.Sprint("of ", n, " above at ", at)] = ringOf(slices.Clone(mass), tracer)
			mass[at] = -1
			wrong[fmt.Sprint("of ", n, " below at ", at)] = ringOf(mass, times(n, int64(0)))
		}
	}
	return wrong
}

func TestRightRings(t *testing.T) {
	for _, r := range edgeRings() {
		if !impl.RingOk(r) {
			t.Error("not right:", r)
		}
		mass, tracer := impl.Moment(r)
		if mass != totalOf(r.Mass) || tracer != totalOf(r.Tracer) {
			t.Error("Moment of", r, mass, tracer)
		}
	}
}

func TestWrongRings(t *testing.T) {
	for why, r := range wrongRings() {
		if impl.RingOk(r) {
			t.Error("right:", why)
		}
		if mass, tracer := impl.Moment(r); mass != 0 || tracer != 0 {
			t.Error("Moment of", why, mass, tracer)
		}
		refusesRing(t, why, r, times(len(r.Mass), int64(0)), 1, 0)
		refusesRing(t, why, r, times(len(r.Tracer), int64(64)), 1, 1)
	}
}

func refusesRing(t *testing.T, why string, r impl.Ring, winds []int64, workers, steps int64) {
	t.Helper()
	if got, ok := impl.Advect(r, winds, workers); ok || len(got.Mass) != 0 || len(got.Tracer) != 0 {
		t.Error("Advect:", why, got, ok)
	}
	if got, ok := impl.RunRing(r, winds, steps); ok || len(got.Mass) != 0 || len(got.Tracer) != 0 {
		t.Error("RunRing:", why, got, ok)
	}
}

func TestWrongWindsOfRings(t *testing.T) {
	for _, r := range edgeRings() {
		n := len(r.Mass)
		for _, count := range []int{0, n - 1, n + 1, 2 * n, 200, 201} {
			if count != n {
				refusesRing(t, fmt.Sprint(count, " winds for ", n), r, times(count, int64(0)), 1, 1)
			}
		}
		for _, at := range []int{0, n / 2, n - 1} {
			for _, wind := range []int64{129, -129, 256, -256, math.MaxInt64, math.MinInt64, math.MinInt64 + 1} {
				winds := times(n, int64(0))
				winds[at] = wind
				for _, steps := range []int64{0, 1, 200} {
					refusesRing(t, fmt.Sprint("a wind of ", wind, " of ", n), r, winds, 2, steps)
				}
			}
		}
	}
}

func TestWorkersAndSteps(t *testing.T) {
	for _, r := range edgeRings() {
		winds := times(len(r.Mass), int64(128))
		for _, workers := range []int64{0, 9, -1, 10, 200, 256, 257, math.MaxInt64, math.MinInt64} {
			if got, ok := impl.Advect(r, winds, workers); ok || len(got.Mass) != 0 || len(got.Tracer) != 0 {
				t.Error(workers, "workers", got, ok)
			}
		}
		for workers := int64(1); workers <= 8; workers++ {
			if got, ok := impl.Advect(r, winds, workers); !ok || !sameRing(got, advectBySteps(r, winds)) {
				t.Error(workers, "workers of", r, got, ok)
			}
		}
		for _, steps := range []int64{-1, 201, 202, 1000, math.MaxInt64, math.MinInt64} {
			if got, ok := impl.RunRing(r, winds, steps); ok || len(got.Mass) != 0 || len(got.Tracer) != 0 {
				t.Error(steps, "steps", got, ok)
			}
		}
		if got, ok := impl.RunRing(r, winds, 0); !ok || !sameRing(got, r) {
			t.Error("no step of", r, got, ok)
		}
		if got, ok := impl.RunRing(r, winds, 1); !ok || !sameRing(got, advectBySteps(r, winds)) {
			t.Error("one step of", r, got, ok)
		}
		if got, ok := impl.RunRing(r, winds, 200); !ok || !sameRing(got, runBySteps(r, winds, 200)) {
			t.Error("200 steps of", r, got, ok)
		}
	}
}

// share is a product by another number, rounded down, worked out of numbers that can't wrap.
func share(a, b, by int64) int64 {
	p := new(big.Int).Mul(big.NewInt(a), big.NewInt(b))
	return p.Div(p, big.NewInt(by)).Int64()
}

// advectBySteps takes out of cell by cell and puts aside what comes in.
func advectBySteps(r impl.Ring, winds []int64) impl.Ring {
	n := len(r.Mass)
	mass, tracer := slices.Clone(r.Mass), slices.Clone(r.Tracer)
	coming := ringOf(make([]int64, n), make([]int64, n))
	for c := range n {
		before, next := (c+n-1)%n, (c+1)%n
		for _, out := range []struct {
			to    int
			blows int64
		}{{before, -winds[c]}, {next, winds[next]}} {
			if out.blows <= 0 || mass[c] == 0 {
				continue
			}
			gone := share(r.Mass[c], out.blows, 256)
			along := share(tracer[c], gone, mass[c])
			mass[c] -= gone
			tracer[c] -= along
			coming.Mass[out.to] += gone
			coming.Tracer[out.to] += along
		}
	}
	for c := range n {
		mass[c] += coming.Mass[c]
		tracer[c] += coming.Tracer[c]
	}
	return ringOf(mass, tracer)
}

func runBySteps(r impl.Ring, winds []int64, steps int64) impl.Ring {
	for range steps {
		r = advectBySteps(r, winds)
	}
	return r
}

// blowsTo is a step with any number of workers, and alone.
func blowsTo(t *testing.T, r impl.Ring, winds []int64, want impl.Ring) {
	t.Helper()
	for workers := int64(1); workers <= 8; workers++ {
		if got, ok := impl.Advect(r, winds, workers); !ok || !sameRing(got, want) {
			t.Errorf("Advect(%v, %v, %d) = %v, %v and not %v", r, winds, workers, got, ok, want)
		}
	}
	if got, ok := impl.RunRing(r, winds, 1); !ok || !sameRing(got, want) {
		t.Errorf("RunRing(%v, %v, 1) = %v, %v and not %v", r, winds, got, ok, want)
	}
}

// One cell gives to itself, whatever blows.
func TestRingsOfOneCell(t *testing.T) {
	for _, r := range []impl.Ring{ringOf([]int64{0}, []int64{0}), ringOf([]int64{1}, []int64{1}), ringOf([]int64{9}, []int64{4}), ringOf([]int64{1000}, []int64{0}), ringOf([]int64{1000}, []int64{333}), ringOf([]int64{impl.MaxMass}, []int64{impl.MaxMass}), ringOf([]int64{impl.MaxMass}, []int64{1})} {
		for wind := int64(-128); wind <= 128; wind++ {
			blowsTo(t, r, []int64{wind}, r)
		}
		for _, steps := range []int64{0, 1, 2, 199, 200} {
			if got, ok := impl.RunRing(r, []int64{-77}, steps); !ok || !sameRing(got, r) {
				t.Error(steps, "steps of", r, got, ok)
			}
		}
	}
}

func TestRingsOfTwoCells(t *testing.T) {
	r := ringOf([]int64{1000, 10}, []int64{501, 3})
	// The first wind is that from the last cell to the first one.
	blowsTo(t, r, []int64{0, 0}, r)
	blowsTo(t, r, []int64{128, 0}, ringOf([]int64{1005, 5}, []int64{502, 2}))
	blowsTo(t, r, []int64{-128, 0}, ringOf([]int64{500, 510}, []int64{251, 253}))
	blowsTo(t, r, []int64{0, 128}, ringOf([]int64{500, 510}, []int64{251, 253}))
	blowsTo(t, r, []int64{0, -128}, ringOf([]int64{1005, 5}, []int64{502, 2}))
	// Out of the first at both sides: 250 of 501 go first, then 251 with all that is left.
	blowsTo(t, r, []int64{-128, 128}, ringOf([]int64{0, 1010}, []int64{0, 504}))
	blowsTo(t, r, []int64{-64, 64}, ringOf([]int64{500, 510}, []int64{251, 253}))
	// Into it at both.
	blowsTo(t, r, []int64{128, -128}, ringOf([]int64{1010, 0}, []int64{504, 0}))
	// Round and round.
	blowsTo(t, r, []int64{128, 128}, ringOf([]int64{505, 505}, []int64{252, 252}))
	blowsTo(t, r, []int64{-128, -128}, ringOf([]int64{505, 505}, []int64{252, 252}))
}

func TestAdvectByHand(t *testing.T) {
	r := ringOf([]int64{100, 50, 7}, []int64{40, 50, 0})
	blowsTo(t, r, []int64{-64, 128, 128}, ringOf([]int64{25, 75, 57}, []int64{10, 45, 35}))
	// 100 by 256 is nothing, 200 and 50 by 256, too; -128 takes half of 7.
	blowsTo(t, r, []int64{0, 1, 0}, r)
	blowsTo(t, r, []int64{0, 2, 0}, r)
	blowsTo(t, r, []int64{0, 3, 0}, ringOf([]int64{99, 51, 7}, []int64{40, 50, 0}))
	blowsTo(t, r, []int64{0, 0, -128}, ringOf([]int64{100, 53, 4}, []int64{40, 50, 0}))
	blowsTo(t, r, []int64{128, 0, 0}, ringOf([]int64{103, 50, 4}, []int64{40, 50, 0}))
	blowsTo(t, r, []int64{0, -128, 0}, ringOf([]int64{125, 25, 7}, []int64{65, 25, 0}))
	// What comes in does not blow on in the same step, nor is it mixed with what goes out.
	blowsTo(t, ringOf([]int64{100, 0, 0, 0}, []int64{100, 0, 0, 0}), []int64{128, 128, 128, 128}, ringOf([]int64{50, 50, 0, 0}, []int64{50, 50, 0, 0}))
	blowsTo(t, ringOf([]int64{100, 100, 0}, []int64{100, 0, 0}), []int64{0, 128, 128}, ringOf([]int64{50, 100, 50}, []int64{50, 50, 0}))
	blowsTo(t, ringOf([]int64{0, 100, 100}, []int64{0, 0, 100}), []int64{0, -128, -128}, ringOf([]int64{50, 100, 50}, []int64{0, 50, 50}))
	// A cell without Mass gives nothing, one without Tracer only Mass.
	blowsTo(t, ringOf([]int64{0, 0, 0}, []int64{0, 0, 0}), []int64{128, -128, 128}, ringOf([]int64{0, 0, 0}, []int64{0, 0, 0}))
	blowsTo(t, ringOf([]int64{0, 8, 0}, []int64{0, 0, 0}), []int64{128, -128, 128}, ringOf([]int64{4, 0, 4}, []int64{0, 0, 0}))
	const most = impl.MaxMass
	blowsTo(t, ringOf([]int64{0, most, 0}, []int64{0, most, 0}), []int64{0, -128, 128}, ringOf([]int64{most / 2, 0, most / 2}, []int64{most / 2, 0, most / 2}))
	blowsTo(t, ringOf([]int64{0, most, 0}, []int64{0, most - 1, 0}), []int64{0, -128, 128}, ringOf([]int64{most / 2, 0, most / 2}, []int64{most/2 - 1, 0, most / 2}))
	blowsTo(t, ringOf([]int64{most, 0, 0}, []int64{most, 0, 0}), []int64{127, 127, 0}, ringOf([]int64{most - 496093750, 496093750, 0}, []int64{most - 496093750, 496093750, 0}))
}

// Tracer leaves towards the cell before first: of what is left then, the rest.
func TestWhichTracerLeavesFirst(t *testing.T) {
	// Of 6 in 7 there go 2 with the 3 towards the cell before, then of 4 in 4 3 with the 3 towards the next.
	blowsTo(t, ringOf([]int64{0, 7, 0}, []int64{0, 6, 0}), []int64{0, -128, 128}, ringOf([]int64{3, 1, 3}, []int64{2, 1, 3}))
	blowsTo(t, ringOf([]int64{0, 7, 0}, []int64{0, 1, 0}), []int64{0, -128, 128}, ringOf([]int64{3, 1, 3}, []int64{0, 1, 0}))
	blowsTo(t, ringOf([]int64{0, 8, 0}, []int64{0, 1, 0}), []int64{0, -128, 128}, ringOf([]int64{4, 0, 4}, []int64{0, 0, 1}))
	blowsTo(t, ringOf([]int64{0, 8, 0}, []int64{0, 3, 0}), []int64{0, -128, 128}, ringOf([]int64{4, 0, 4}, []int64{1, 0, 2}))
	blowsTo(t, ringOf([]int64{8, 0, 0}, []int64{3, 0, 0}), []int64{-128, 128, 0}, ringOf([]int64{0, 4, 4}, []int64{0, 2, 1}))
	blowsTo(t, ringOf([]int64{0, 0, 8}, []int64{0, 0, 3}), []int64{128, 0, -128}, ringOf([]int64{4, 4, 0}, []int64{2, 1, 0}))
	// Mass is told as it was ahead of both: 100 64 by 256 at each side, not 75 64 by 256.
	blowsTo(t, ringOf([]int64{0, 100, 0}, []int64{0, 99, 0}), []int64{0, -64, 64}, ringOf([]int64{25, 50, 25}, []int64{24, 50, 25}))
}

// allRings has all rings of so many cells with each Mass below a number, and any Tracer.
func allRings(cells int, below int64) []impl.Ring {
	rings := []impl.Ring{{}}
	for range cells {
		var longer []impl.Ring
		for _, r := range rings {
			for mass := range below {
				for tracer := range mass + 1 {
					longer = append(longer, ringOf(append(slices.Clone(r.Mass), mass), append(slices.Clone(r.Tracer), tracer)))
				}
			}
		}
		rings = longer
	}
	return rings
}

// allRows has all rows of so many numbers of these.
func allRows(cells int, of ...int64) [][]int64 {
	rows := [][]int64{nil}
	for range cells {
		var longer [][]int64
		for _, row := range rows {
			for _, wind := range of {
				longer = append(longer, append(slices.Clone(row), wind))
			}
		}
		rows = longer
	}
	return rows
}

func TestAllSmallRings(t *testing.T) {
	for cells, below := range []int64{0, 12, 7, 4, 3} {
		if cells == 0 {
			continue
		}
		for _, winds := range allRows(cells, -128, -64, 0, 90, 128) {
			for _, r := range allRings(cells, below) {
				got, ok := impl.Advect(r, winds, int64(1+len(winds)%3))
				if !ok || !sameRing(got, advectBySteps(r, winds)) {
					t.Fatalf("Advect(%v, %v) = %v, %v", r, winds, got, ok)
				}
			}
		}
	}
}

func rolledRing(d *dice, cells int) (impl.Ring, []int64) {
	var r impl.Ring
	var winds []int64
	most := []int64{3, 20, 1000, impl.MaxMass / int64(cells)}[d.below(4)]
	for range cells {
		mass := d.below(most + 1)
		if d.below(5) == 0 {
			mass = 0
		}
		tracer := d.below(mass + 1)
		switch d.below(5) {
		case 0:
			tracer = 0
		case 1:
			tracer = mass
		}
		r.Mass, r.Tracer = append(r.Mass, mass), append(r.Tracer, tracer)
		winds = append(winds, []int64{d.below(257) - 128, -128, 128, 0, d.below(257) - 128}[d.below(5)])
	}
	return r, winds
}

// keepsSeventeen holds a ring against the one that it came from: the same mass and tracer in all, none below nothing, no tracer above its mass.
func keepsSeventeen(t *testing.T, from, to impl.Ring) {
	t.Helper()
	if len(to.Mass) != len(from.Mass) || len(to.Tracer) != len(from.Tracer) || totalOf(to.Mass) != totalOf(from.Mass) || totalOf(to.Tracer) != totalOf(from.Tracer) {
		t.Fatalf("%v became %v", from, to)
	}
	for c, mass := range to.Mass {
		if mass < 0 || to.Tracer[c] < 0 || to.Tracer[c] > mass {
			t.Fatalf("%v became %v", from, to)
		}
	}
	mass, tracer := impl.Moment(to)
	if !impl.RingOk(to) || mass != totalOf(from.Mass) || tracer != totalOf(from.Tracer) {
		t.Fatalf("%v became %v: %d, %d", from, to, mass, tracer)
	}
}

// Promise 17: mass and tracers are kept exactly; any number of workers gives the same numbers.
func TestAdvectKeepsAll(t *testing.T) {
	d := dice(1701)
	for i := range 3000 {
		r, winds := rolledRing(&d, 1+i%200)
		if i%2 == 0 {
			r, winds = rolledRing(&d, 1+i%12)
		}
		want := advectBySteps(r, winds)
		for workers := int64(1); workers <= 8; workers++ {
			got, ok := impl.Advect(r, winds, workers)
			if !ok || !sameRing(got, want) {
				t.Fatalf("Advect(%v, %v, %d) = %v, %v", r, winds, workers, got, ok)
			}
			keepsSeventeen(t, r, got)
		}
	}
}

// Promise 17: any split of the steps gives the same numbers.
func TestSplitSteps(t *testing.T) {
	d := dice(1702)
	for i := range 60 {
		r, winds := rolledRing(&d, []int{1, 2, 3, 5, 17, 200}[i%6])
		steps := d.below(201)
		first := d.below(steps + 1)
		whole, ok := impl.RunRing(r, winds, steps)
		if !ok || !sameRing(whole, runBySteps(r, winds, steps)) {
			t.Fatalf("%d steps of %v with %v: %v, %v", steps, r, winds, whole, ok)
		}
		keepsSeventeen(t, r, whole)
		half, ok := impl.RunRing(r, winds, first)
		again, alsoOk := impl.RunRing(half, winds, steps-first)
		if !ok || !alsoOk || !sameRing(again, whole) {
			t.Fatalf("%d and %d steps of %v with %v: %v", first, steps-first, r, winds, again)
		}
		one := r
		for k := range steps {
			one, _ = impl.Advect(one, winds, 1+k%8)
		}
		if !sameRing(one, whole) {
			t.Fatalf("%d steps one by one of %v with %v: %v", steps, r, winds, one)
		}
	}
}

func TestAllSplitsOfAFewSteps(t *testing.T) {
	r, winds := ringOf([]int64{100, 50, 7, 0, 31}, []int64{40, 50, 0, 0, 30}), []int64{-64, 128, 128, -1, 77}
	for steps := range int64(41) {
		whole, _ := impl.RunRing(r, winds, steps)
		for first := range steps + 1 {
			half, _ := impl.RunRing(r, winds, first)
			if again, ok := impl.RunRing(half, winds, steps-first); !ok || !sameRing(again, whole) {
				t.Errorf("%d and %d steps: %v, %v and not %v", first, steps-first, again, ok, whole)
			}
		}
	}
}

func soilOf(snow, top, deep, gone int64) impl.Soil {
	return impl.Soil{Snow: snow, Top: top, Deep: deep, Gone: gone, Fallen: snow + top + deep + gone}
}

// soilBySteps goes by the six points of the chapter, one by one.
func soilBySteps(s impl.Soil, temp, rain int64) impl.Soil {
	if s.Fallen += rain; temp < 0 {
		s.Snow += rain
	} else {
		s.Top += rain
	}
	for i := int64(10); i <= 3*temp && s.Snow > 0; i += 10 {
		s.Snow, s.Top = s.Snow-1, s.Top+1
	}
	for i := int64(20); i <= temp && s.Top > 0; i += 20 {
		s.Top, s.Gone = s.Top-1, s.Gone+1
	}
	for above := s.Top - 100; above >= 4 && s.Deep < 1500; above -= 4 {
		s.Top, s.Deep = s.Top-1, s.Deep+1
	}
	for s.Top > 400 {
		s.Top, s.Gone = s.Top-1, s.Gone+1
	}
	for i := s.Deep; i >= 50; i -= 50 {
		s.Deep, s.Gone = s.Deep-1, s.Gone+1
	}
	return s
}

func soilBecomes(t *testing.T, s impl.Soil, temp, rain int64, want impl.Soil) {
	t.Helper()
	if got, ok := impl.SoilStep(s, temp, rain); !ok || got != want {
		t.Errorf("SoilStep(%v, %d, %d) = %v, %v and not %v", s, temp, rain, got, ok, want)
	}
}

func TestRainAndSnow(t *testing.T) {
	for _, temp := range []int64{-800, -799, -20, -10, -1} {
		soilBecomes(t, soilOf(0, 0, 0, 0), temp, 0, soilOf(0, 0, 0, 0))
		soilBecomes(t, soilOf(0, 0, 0, 0), temp, 5000, soilOf(5000, 0, 0, 0))
		soilBecomes(t, soilOf(7, 3, 49, 9), temp, 1, soilOf(8, 3, 49, 9))
	}
	// At 0 it rains, and nothing melts or dries.
	soilBecomes(t, soilOf(0, 0, 0, 0), 0, 0, soilOf(0, 0, 0, 0))
	soilBecomes(t, soilOf(0, 0, 0, 0), 0, 90, soilOf(0, 90, 0, 0))
	soilBecomes(t, soilOf(50, 20, 0, 0), 0, 5, soilOf(50, 25, 0, 0))
	// 4900 above 100: 1225 go down, of which a 50th leaks; 3375 are over the top.
	soilBecomes(t, soilOf(0, 0, 0, 0), 0, 5000, soilOf(0, 400, 1201, 3399))
}

func TestMeltAndDry(t *testing.T) {
	for _, c := range []struct{ temp, melted, dried int64 }{
		{-800, 0, 0}, {-1, 0, 0}, {0, 0, 0}, {1, 0, 0}, {2, 0, 0}, {3, 0, 0}, {4, 1, 0}, {6, 1, 0}, {7, 2, 0}, {9, 2, 0}, {10, 3, 0}, {13, 3, 0}, {14, 4, 0}, {19, 5, 0}, {20, 6, 1}, {21, 6, 1}, {39, 11, 1}, {40, 12, 2}, {100, 30, 5},
	} {
		soilBecomes(t, soilOf(1000, 60, 0, 0), c.temp, 0, soilOf(1000-c.melted, 60+c.melted-c.dried, 0, c.dried))
		soilBecomes(t, soilOf(c.melted, 60, 0, 0), c.temp, 0, soilOf(0, 60+c.melted-c.dried, 0, c.dried))
		if c.melted > 0 {
			soilBecomes(t, soilOf(c.melted-1, 60, 0, 0), c.temp, 0, soilOf(0, 60+c.melted-1-c.dried, 0, c.dried))
			soilBecomes(t, soilOf(c.melted+1, 60, 0, 0), c.temp, 0, soilOf(1, 60+c.melted-c.dried, 0, c.dried))
		}
		// No more dries than is there.
		soilBecomes(t, soilOf(0, c.dried, 0, 0), c.temp, 0, soilOf(0, 0, 0, c.dried))
		if c.dried > 0 {
			soilBecomes(t, soilOf(0, c.dried-1, 0, 0), c.temp, 0, soilOf(0, 0, 0, c.dried-1))
		}
		soilBecomes(t, soilOf(0, c.dried+1, 0, 0), c.temp, 0, soilOf(0, 1, 0, c.dried))
	}
	// At 80 degrees 240 melt and 40 dry: of what has melted and of what has rained, too.
	soilBecomes(t, soilOf(240, 0, 0, 0), 800, 0, soilOf(0, 175, 25, 40))
	soilBecomes(t, soilOf(30, 0, 0, 0), 800, 0, soilOf(0, 0, 0, 30))
	soilBecomes(t, soilOf(0, 0, 0, 0), 800, 41, soilOf(0, 1, 0, 40))
	soilBecomes(t, soilOf(241, 0, 0, 0), 800, 0, soilOf(1, 175, 25, 40))
	soilBecomes(t, soilOf(0, 0, 0, 0), 799, 40, soilOf(0, 1, 0, 39))
}

func TestSeeping(t *testing.T) {
	for _, c := range []struct{ top, down int64 }{{0, 0}, {99, 0}, {100, 0}, {101, 0}, {103, 0}, {104, 1}, {107, 1}, {108, 2}, {300, 50}, {399, 74}, {400, 75}} {
		leaked := c.down / 50
		soilBecomes(t, soilOf(0, c.top, 0, 0), -1, 0, soilOf(0, c.top-c.down, c.down-leaked, leaked))
		// Deep lacks just so much, one less, nothing.
		for lacking := range c.down + 2 {
			down := min(lacking, c.down)
			deep := 1500 - lacking + down
			soilBecomes(t, soilOf(0, c.top, 1500-lacking, 0), -1, 0, soilOf(0, c.top-down, deep-deep/50, deep/50))
		}
	}
	for _, c := range []struct{ deep, leaked int64 }{{0, 0}, {1, 0}, {49, 0}, {50, 1}, {51, 1}, {99, 1}, {100, 2}, {1499, 29}, {1500, 30}} {
		soilBecomes(t, soilOf(0, 0, c.deep, 0), 0, 0, soilOf(0, 0, c.deep-c.leaked, c.leaked))
		soilBecomes(t, soilOf(5, 100, c.deep, 7), 0, 0, soilOf(5, 100, c.deep-c.leaked, 7+c.leaked))
	}
	// What is over the top is gone behind what has seeped: 500 less 100 by 4 is 400 just, 501 too, then one is over.
	soilBecomes(t, soilOf(0, 400, 0, 0), 0, 100, soilOf(0, 400, 98, 2))
	soilBecomes(t, soilOf(0, 400, 0, 0), 0, 101, soilOf(0, 400, 98, 3))
	soilBecomes(t, soilOf(0, 400, 0, 0), 0, 99, soilOf(0, 400, 98, 1))
	soilBecomes(t, soilOf(0, 400, 1500, 0), 0, 0, soilOf(0, 400, 1470, 30))
	soilBecomes(t, soilOf(0, 400, 1500, 0), 0, 1, soilOf(0, 400, 1470, 31))
	soilBecomes(t, soilOf(0, 400, 1490, 0), 0, 200, soilOf(0, 400, 1470, 220))
	soilBecomes(t, soilOf(0, 400, 1499, 0), 0, 5000, soilOf(0, 400, 1470, 5029))
}

// wrongSoils are a step off what is right.
func wrongSoils() []impl.Soil {
	const most = impl.MaxWater
	wrong := []impl.Soil{
		soilOf(-1, 0, 0, 0), soilOf(-1, 1, 0, 0), soilOf(0, -1, 0, 0), soilOf(1, -1, 0, 0), soilOf(0, 0, -1, 0), soilOf(1, 0, -1, 0), soilOf(0, 0, 0, -1), soilOf(1, 0, 0, -1), soilOf(5, -1, -1, 5),
		soilOf(0, 401, 0, 0), soilOf(0, 0, 1501, 0), soilOf(most+1, 0, 0, 0), soilOf(0, 0, 0, most+1), soilOf(most, 1, 0, 0), soilOf(most, 0, 0, 1), soilOf(most, 0, 0, most), soilOf(most+1, 0, 0, -1), soilOf(-1, 0, 0, most+1),
		{Snow: 1}, {Top: 1}, {Deep: 1}, {Gone: 1}, {Fallen: 1}, {Fallen: -1}, {Snow: 1, Fallen: 2}, {Snow: 2, Fallen: 1}, {Top: 400, Deep: 1500, Fallen: 1901}, {Top: 400, Deep: 1500, Fallen: 1899}, {Fallen: most}, {Snow: most}, {Gone: most}, {Snow: most, Fallen: most + 1}, {Snow: most, Fallen: most - 1},
		{Snow: math.MaxInt64, Fallen: math.MaxInt64}, {Gone: math.MaxInt64, Fallen: math.MaxInt64}, {Snow: math.MinInt64, Fallen: math.MinInt64}, {Fallen: math.MaxInt64}, {Fallen: math.MinInt64}, {Top: math.MinInt64, Fallen: math.MinInt64}, {Deep: math.MinInt64, Fallen: math.MinInt64},
		// These sums wrap to what Fallen says.
		{Snow: math.MaxInt64, Gone: math.MaxInt64, Top: 2}, {Snow: math.MaxInt64, Gone: math.MaxInt64, Top: 5, Fallen: 3}, {Snow: math.MinInt64, Gone: math.MinInt64}, {Snow: math.MinInt64, Gone: math.MinInt64, Top: 7, Fallen: 7}, {Top: math.MinInt64, Deep: math.MinInt64},
	}
	for k := range 5 {
		s := soilOf(3, 4, 5, 6)
		*[]*int64{&s.Snow, &s.Top, &s.Deep, &s.Gone, &s.Fallen}[k]++
		wrong = append(wrong, s)
		*[]*int64{&s.Snow, &s.Top, &s.Deep, &s.Gone, &s.Fallen}[k] -= 2
		wrong = append(wrong, s)
	}
	return wrong
}

func refusesSoil(t *testing.T, s impl.Soil, temp, rain int64) {
	t.Helper()
	if got, ok := impl.SoilStep(s, temp, rain); ok || got != (impl.Soil{}) {
		t.Errorf("SoilStep(%v, %d, %d) = %v, %v", s, temp, rain, got, ok)
	}
}

func TestWrongSoils(t *testing.T) {
	for _, s := range wrongSoils() {
		for _, temp := range []int64{-800, 0, 800} {
			refusesSoil(t, s, temp, 0)
			refusesSoil(t, s, temp, 5000)
		}
		if text := impl.SoilText(s); text != "" {
			t.Errorf("SoilText(%v) = %q", s, text)
		}
		refusesText(t, fmt.Sprint(s.Snow, s.Top, s.Deep, s.Gone, s.Fallen))
	}
}

func TestLimitsOfSoils(t *testing.T) {
	const most = impl.MaxWater
	for _, s := range []impl.Soil{{}, soilOf(3, 4, 5, 6), soilOf(most/2, 400, 1500, 7)} {
		for _, temp := range []int64{-801, 801, -802, 8000, -1000000, math.MaxInt64, math.MinInt64} {
			refusesSoil(t, s, temp, 0)
		}
		for _, rain := range []int64{-1, 5001, -5000, 10000, most, math.MaxInt64, math.MinInt64} {
			for _, temp := range []int64{-800, 0, 800} {
				refusesSoil(t, s, temp, rain)
			}
		}
		for _, temp := range []int64{-800, -1, 0, 1, 800} {
			for _, rain := range []int64{0, 1, 4999, 5000} {
				soilBecomes(t, s, temp, rain, soilBySteps(s, temp, rain))
			}
		}
	}
	for _, temp := range []int64{-800, -1, 0, 1, 800} {
		for _, rain := range []int64{0, 1, 4999, 5000} {
			for _, s := range []impl.Soil{soilOf(most-rain, 0, 0, 0), soilOf(0, 0, 0, most-rain), soilOf(1, 400, 1500, most-rain-1901), soilOf(most-rain-1907, 400, 1500, 7)} {
				soilBecomes(t, s, temp, rain, soilBySteps(s, temp, rain))
				if rain > 0 {
					s.Gone, s.Fallen = s.Gone+1, s.Fallen+1
					refusesSoil(t, s, temp, rain)
				}
			}
		}
		refusesSoil(t, soilOf(most, 0, 0, 0), temp, 1)
		refusesSoil(t, soilOf(0, 0, 0, most), temp, 5000)
	}
}

func rolledSoil(d *dice) (s impl.Soil, temp, rain int64) {
	pick := func(most int64) int64 {
		return []int64{0, most, d.below(most + 1), d.below(most + 1), d.below(min(most, 200) + 1)}[d.below(5)]
	}
	s = soilOf(pick(2000), pick(400), pick(1500), pick(2000))
	return s, []int64{d.below(1601) - 800, d.below(61) - 20, d.below(400)}[d.below(3)], []int64{0, pick(5000), d.below(30)}[d.below(3)]
}

// Promise 17: the soil's book is balanced; nothing is below nothing, and nothing above what it may have.
func TestSoilsBookIsBalanced(t *testing.T) {
	d := dice(1703)
	for range 20000 {
		s, temp, rain := rolledSoil(&d)
		got, ok := impl.SoilStep(s, temp, rain)
		if !ok || got != soilBySteps(s, temp, rain) {
			t.Fatalf("SoilStep(%v, %d, %d) = %v, %v", s, temp, rain, got, ok)
		}
		if got.Fallen != s.Fallen+rain || got.Snow+got.Top+got.Deep+got.Gone != got.Fallen {
			t.Fatalf("SoilStep(%v, %d, %d) = %v is not balanced", s, temp, rain, got)
		}
		if min(got.Snow, got.Top, got.Deep) < 0 || got.Gone < s.Gone || got.Top > 400 || got.Deep > 1500 || impl.SoilText(got) == "" {
			t.Fatalf("SoilStep(%v, %d, %d) = %v", s, temp, rain, got)
		}
		readsBack(t, got)
	}
}

func TestSoilsOverYears(t *testing.T) {
	d := dice(1704)
	var s impl.Soil
	fallen := int64(0)
	for range 3000 {
		_, temp, rain := rolledSoil(&d)
		next, ok := impl.SoilStep(s, temp, rain)
		if fallen += rain; !ok || next.Fallen != fallen || next != soilBySteps(s, temp, rain) {
			t.Fatalf("SoilStep(%v, %d, %d) = %v, %v", s, temp, rain, next, ok)
		}
		s = next
	}
}

func readsBack(t *testing.T, s impl.Soil) {
	t.Helper()
	text := impl.SoilText(s)
	if want := fmt.Sprint(s.Snow, s.Top, s.Deep, s.Gone, s.Fallen); text != want {
		t.Fatalf("SoilText(%v) = %q", s, text)
	}
	if got, ok := impl.ReadSoil(text); !ok || got != s {
		t.Fatalf("ReadSoil(%q) = %v, %v", text, got, ok)
	}
}

func refusesText(t *testing.T, text string) {
	t.Helper()
	if got, ok := impl.ReadSoil(text); ok || got != (impl.Soil{}) {
		t.Errorf("ReadSoil(%q) = %v, %v", text, got, ok)
	}
}

func TestTextsOfSoils(t *testing.T) {
	const most = impl.MaxWater
	for _, s := range []impl.Soil{{}, soilOf(1, 0, 0, 0), soilOf(0, 1, 0, 0), soilOf(0, 0, 1, 0), soilOf(0, 0, 0, 1), soilOf(10, 20, 30, 40), soilOf(0, 400, 1500, 0), soilOf(most, 0, 0, 0), soilOf(0, 0, 0, most), soilOf(most-1900, 400, 1500, 0), soilOf(most-1901, 400, 1500, 1)} {
		readsBack(t, s)
	}
	if text := impl.SoilText(impl.Soil{}); text != "0 0 0 0 0" {
		t.Errorf("nothing is told as %q", text)
	}
}

func TestTextsOfNoSoil(t *testing.T) {
	for _, text := range []string{
		"", " ", "    ", "     ", "0", "0 0 0 0", "0 0 0 0 ", " 0 0 0 0", "0 0 0 0 0 ", " 0 0 0 0 0", "0  0 0 0 0", "0 0 0 0  0", "0 0  0 0", "0 0 0 0 0 0", "1 2 3 4 10 0", "1 2 3 4", "1 2 7 10",
		"+1 0 0 0 1", "-0 0 0 0 0", "0 +0 0 0 0", "-1 1 0 0 0", "1 -1 0 0 0", "1 0 0 -1 0", "0 0 0 0 -0", "01 0 0 0 1", "1 00 0 0 1", "1 0 0 0 01", "00 0 0 0 0", "0 0 0 0 00", "1 2 3 4 010",
		"0\t0 0 0 0", "0,0,0,0,0", "0 0 0 0 0\n", "\n0 0 0 0 0", "0 0 0 0 0=", "0 0 0 0 x", "x 0 0 0 0", "0x1 0 0 0 1", "1_0 0 0 0 10", "1e1 0 0 0 10", "1. 0 0 0 1", "1.0 0 0 0 1", "0 0 0 0 0\x00", "0\xc2\xa00 0 0 0", "\xff 0 0 0 0", "\xd9\xa1 0 0 0 1", "O 0 0 0 0",
		"1000000000001 0 0 0 1000000000001", "0 0 0 1000000000001 1000000000001", "0 401 0 0 401", "0 0 1501 0 1501", "1000000000000 1 0 0 1000000000001", "1 2 3 4 11", "1 2 3 4 9", "0 0 0 0 1", "1 0 0 0 0",
		"9223372036854775807 0 0 0 9223372036854775807", "9223372036854775808 0 0 0 9223372036854775808", "18446744073709551616 0 0 0 0", "0 0 0 0 18446744073709551616", "18446744073709551617 0 0 0 1", "-9223372036854775808 0 0 0 -9223372036854775808", "9223372036854775807 2 0 9223372036854775807 0",
		strings.Repeat("0", 1000) + " 0 0 0 0", strings.Repeat("9", 1000) + " 0 0 0 0", strings.Repeat("0 ", 5000), strings.Repeat(" ", 5000), strings.Repeat("1", 100000),
	} {
		refusesText(t, text)
	}
}

// Of a text that is near one of a Soil only what SoilText writes is read.
func TestTextsNearThoseOfSoils(t *testing.T) {
	d := dice(1705)
	for range 4000 {
		s, _, _ := rolledSoil(&d)
		text := impl.SoilText(s)
		at := int(d.below(int64(len(text))))
		signs := []string{"", " ", "0", "1", "5", "9", "-", "+", ".", "\t", "_"}
		for _, sign := range signs {
			for _, near := range []string{text[:at] + sign + text[at:], text[:at] + sign + text[at+1:], text + sign} {
				readsAsItSays(t, near)
			}
		}
	}
	words := []string{"0", "1", "2", "01", "-1", "+1", ""}
	for _, w := range allRows(5, 0, 1, 2, 3, 4, 5, 6) {
		readsAsItSays(t, strings.Join([]string{words[w[0]], words[w[1]], words[w[2]], words[w[3]], words[w[4]]}, " "))
	}
}

func readsAsItSays(t *testing.T, text string) {
	t.Helper()
	got, ok := impl.ReadSoil(text)
	want, right := soilInText(text)
	if ok != right || got != want {
		t.Fatalf("ReadSoil(%q) = %v, %v", text, got, ok)
	}
	if ok && impl.SoilText(got) != text {
		t.Fatalf("ReadSoil(%q) = %v, which is told as %q", text, got, impl.SoilText(got))
	}
}

// soilInText reads digit by digit.
func soilInText(text string) (impl.Soil, bool) {
	words := strings.Split(text, " ")
	if len(words) != 5 {
		return impl.Soil{}, false
	}
	var n [5]int64
	for i, word := range words {
		if word == "" || len(word) > 13 || len(word) > 1 && word[0] == '0' || strings.Trim(word, "0123456789") != "" {
			return impl.Soil{}, false
		}
		n[i], _ = strconv.ParseInt(word, 10, 64)
	}
	s := soilOf(n[0], n[1], n[2], n[3])
	if s.Top > 400 || s.Deep > 1500 || s.Fallen != n[4] || s.Fallen > impl.MaxWater {
		return impl.Soil{}, false
	}
	return s, true
}
