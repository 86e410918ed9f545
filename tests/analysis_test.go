package tests

import (
	"math"
	"math/big"
	"slices"
	"testing"

	"loop.example/g00051/impl"
)

func TestAnalysisNumbers(t *testing.T) {
	if impl.MaxRowsOf != 20 {
		t.Error(impl.MaxRowsOf)
	}
}

// seen is what was observed: the weighted sum of the unknowns should be y.
func seen(y, w int64, h ...int64) impl.Row {
	return impl.Row{H: h, Y: y, W: w}
}

func problemOf(guess, trust []int64, rows ...impl.Row) impl.Problem {
	return impl.Problem{N: int64(len(guess)), Guess: guess, Trust: trust, Rows: rows}
}

// mildProblem is a right one of n unknowns and three rows.
func mildProblem(n int) impl.Problem {
	guess, trust := riseFrom(-2, n), times(n, int64(2))
	return problemOf(guess, trust, seen(7, 1, riseFrom(-1, n)...), seen(-3, 2, times(n, int64(1))...), seen(0, 3, riseFrom(0, n)...))
}

func rightProblems() map[string]impl.Problem {
	right := map[string]impl.Problem{}
	for n := 1; n <= 6; n++ {
		name := string(rune('0' + n))
		right[name] = mildProblem(n)
		right[name+" and no rows"] = problemOf(times(n, int64(0)), times(n, int64(1)))
		right[name+" and empty rows"] = problemOf(times(n, int64(0)), times(n, int64(5)), []impl.Row{}...)
		right[name+" and noughts alone"] = problemOf(times(n, int64(0)), times(n, int64(1)), seen(0, 1, times(n, int64(0))...))
		right[name+" at the limits"] = problemOf(times(n, int64(500)), times(n, int64(5)), times(20, seen(500, 5, times(n, int64(5))...))...)
		right[name+" at the others"] = problemOf(times(n, int64(-500)), times(n, int64(1)), times(20, seen(-500, 1, times(n, int64(-5))...))...)
		right[name+" at both"] = problemOf(times(n, int64(-500)), times(n, int64(1)), times(20, seen(500, 5, times(n, int64(5))...))...)
	}
	return right
}

// changedProblems are problems in each of which one number of a right one is another.
func changedProblems(n int, guess, trust, factor, y, w int64) []impl.Problem {
	var list []impl.Problem
	for i := range n {
		p := mildProblem(n)
		p.Guess[i] = guess
		q := mildProblem(n)
		q.Trust[i] = trust
		list = append(list, p, q)
		for k := range p.Rows {
			r := mildProblem(n)
			r.Rows[k].H[i] = factor
			list = append(list, r)
		}
	}
	for k := range 3 {
		p, q := mildProblem(n), mildProblem(n)
		p.Rows[k].Y, q.Rows[k].W = y, w
		list = append(list, p, q)
	}
	return list
}

// resizedProblems are problems in each of which one list has another size than it should.
func resizedProblems(n int, resize func([]int64) []int64) []impl.Problem {
	p, q := mildProblem(n), mildProblem(n)
	p.Guess, q.Trust = resize(p.Guess), resize(q.Trust)
	list := []impl.Problem{p, q}
	for k := range 3 {
		r := mildProblem(n)
		r.Rows[k].H = resize(r.Rows[k].H)
		list = append(list, r)
	}
	return list
}

func wrongProblems() []impl.Problem {
	list := []impl.Problem{{}, mildProblem(7), mildProblem(20), problemOf([]int64{}, []int64{}), problemOf(nil, nil, seen(0, 1)), problemOf(times(7, int64(0)), times(7, int64(1)))}
	for n := 1; n <= 6; n++ {
		list = append(list, changedProblems(n, 501, 6, 6, 501, 6)...)
		list = append(list, changedProblems(n, -501, 0, -6, -501, 0)...)
		list = append(list, changedProblems(n, math.MaxInt64, math.MaxInt64, math.MaxInt64, math.MaxInt64, math.MaxInt64)...)
		list = append(list, changedProblems(n, math.MinInt64, math.MinInt64, math.MinInt64, math.MinInt64, -1)...)
		list = append(list, resizedProblems(n, func(l []int64) []int64 { return l[:len(l)-1] })...)
		list = append(list, resizedProblems(n, func(l []int64) []int64 { return append(l, 1) })...)
		list = append(list, resizedProblems(n, func([]int64) []int64 { return nil })...)
		for _, other := range []int64{0, -1, int64(n) - 1, int64(n) + 1, 7, math.MaxInt64, math.MinInt64, int64(n) + 1<<32} {
			p := mildProblem(n)
			p.N = other
			list = append(list, p)
		}
		for _, rows := range []int{21, 22, 1000} {
			p := mildProblem(n)
			p.Rows = times(rows, p.Rows[0])
			list = append(list, p)
		}
		p := mildProblem(n)
		p.Rows = append(times(19, p.Rows[0]), seen(0, 1))
		list = append(list, p)
	}
	return list
}

func TestProblemsThatAreRight(t *testing.T) {
	for name, p := range rightProblems() {
		x := times(int(p.N), int64(3))
		if moves, ok := impl.Descend(p, x, 0); !impl.ProblemOk(p) || impl.Cost(p, x) < 0 || len(moves) != 0 || !ok {
			t.Error(name)
		}
	}
	for n := 1; n <= 6; n++ {
		for i, p := range append(changedProblems(n, 500, 5, 5, 500, 5), changedProblems(n, -500, 1, -5, -500, 1)...) {
			if !impl.ProblemOk(p) || impl.Cost(p, times(n, int64(0))) < 0 {
				t.Error(n, i)
			}
		}
	}
}

func TestProblemsThatAreNotRight(t *testing.T) {
	for i, p := range wrongProblems() {
		if impl.ProblemOk(p) {
			t.Errorf("problem %d, %v, is right", i, p)
		}
		for n := range 9 {
			refusesPoint(t, p, times(n, int64(0)))
		}
	}
}

// refusesPoint asks all functions that want a point.
func refusesPoint(t *testing.T, p impl.Problem, x []int64) {
	t.Helper()
	if cost := impl.Cost(p, x); cost != -1 {
		t.Errorf("Cost(%v, %v) = %d", p, x, cost)
	}
	if impl.Certified(p, x) {
		t.Errorf("Certified(%v, %v)", p, x)
	}
	refusesStart(t, p, x, 5)
}

func refusesStart(t *testing.T, p impl.Problem, x []int64, most int64) {
	t.Helper()
	if moves, ok := impl.Descend(p, x, most); len(moves) != 0 || ok {
		t.Errorf("Descend(%v, %v, %d) = %v, %v", p, x, most, moves, ok)
	}
}

func TestPointsThatAreNone(t *testing.T) {
	for n := 1; n <= 6; n++ {
		p := mildProblem(n)
		for _, count := range []int{0, n - 1, n + 1, 7, 100} {
			refusesPoint(t, p, times(count, int64(0)))
		}
		for i := range n {
			for _, far := range []int64{200001, -200001, math.MaxInt64, math.MinInt64, 1 << 32} {
				x := times(n, int64(1))
				x[i] = far
				refusesPoint(t, p, x)
			}
		}
	}
}

func TestPointsAtTheirLimits(t *testing.T) {
	for n := 1; n <= 6; n++ {
		p := mildProblem(n)
		for i := range n {
			for _, far := range []int64{200000, -200000, 199999, -199999, 501, -501} {
				x := times(n, int64(1))
				x[i] = far
				if cost := impl.Cost(p, x); cost != costBySteps(p, x) || impl.Certified(p, x) {
					t.Errorf("Cost(%v, %v) = %d", p, x, cost)
				}
				refusesStart(t, p, x, 5)
			}
			for _, far := range []int64{500, -500} {
				x := times(n, int64(1))
				x[i] = far
				descends(t, p, x, 500)
			}
		}
		for _, most := range []int64{-1, 501, math.MaxInt64, math.MinInt64, 1 << 32} {
			refusesStart(t, p, times(n, int64(1)), most)
		}
	}
}

func costBySteps(p impl.Problem, x []int64) int64 {
	total := int64(0)
	for i, at := range x {
		total += p.Trust[i] * (at - p.Guess[i]) * (at - p.Guess[i])
	}
	for _, r := range p.Rows {
		miss := -r.Y
		for i, at := range x {
			miss += r.H[i] * at
		}
		total += r.W * miss * miss
	}
	return total
}

// costUnwrapped sums with numbers that never wrap.
func costUnwrapped(p impl.Problem, x []int64) *big.Int {
	total := new(big.Int)
	add := func(weight int64, miss *big.Int) {
		square := new(big.Int).Mul(miss, miss)
		total.Add(total, square.Mul(square, big.NewInt(weight)))
	}
	for i, at := range x {
		add(p.Trust[i], big.NewInt(at-p.Guess[i]))
	}
	for _, r := range p.Rows {
		miss := big.NewInt(-r.Y)
		for i, at := range x {
			miss.Add(miss, new(big.Int).Mul(big.NewInt(r.H[i]), big.NewInt(at)))
		}
		add(r.W, miss)
	}
	return total
}

func TestCostByHand(t *testing.T) {
	two := problemOf([]int64{0, 0}, []int64{1, 1}, seen(10, 2, 1, 1))
	for _, c := range []struct {
		p    impl.Problem
		x    []int64
		want int64
	}{
		{two, []int64{0, 0}, 200}, {two, []int64{4, 3}, 43}, {two, []int64{5, 5}, 50}, {two, []int64{-5, 15}, 250}, {two, []int64{10, 10}, 400},
		{problemOf([]int64{7}, []int64{3}), []int64{7}, 0}, {problemOf([]int64{7}, []int64{3}), []int64{-3}, 300}, {problemOf([]int64{-7}, []int64{5}), []int64{-9}, 20},
		{problemOf([]int64{1}, []int64{1}, seen(3, 1, 0), seen(-3, 2, 0)), []int64{1}, 27}, {problemOf([]int64{1, 2}, []int64{1, 2}, seen(1, 3, -1, 2), seen(4, 1, 5, -5)), []int64{3, -1}, 4 + 18 + 3*36 + 256},
		{problemOf([]int64{0, 0, 0}, []int64{1, 2, 3}, seen(0, 1, 1, -1, 0), seen(0, 1, 0, 1, -1)), []int64{1, 2, 4}, 1 + 8 + 48 + 1 + 4},
	} {
		if got := impl.Cost(c.p, c.x); got != c.want {
			t.Errorf("Cost(%v, %v) = %d", c.p, c.x, got)
		}
	}
}

func TestGreatestCost(t *testing.T) {
	for _, sign := range []int64{1, -1} {
		p := problemOf(times(6, -500*sign), times(6, int64(5)), times(20, seen(-500*sign, 5, times(6, int64(5))...))...)
		if got := impl.Cost(p, times(6, 200000*sign)); got != 3601806032500000 {
			t.Error(got)
		}
		q := problemOf(times(6, -500*sign), times(6, int64(5)), times(20, seen(500*sign, 5, times(6, int64(-5))...))...)
		if got := impl.Cost(q, times(6, 200000*sign)); got != 3601806032500000 {
			t.Error(got)
		}
	}
}

// bestBySearch goes down along the unknown i, by ever shorter steps.
func bestBySearch(p impl.Problem, x []int64, i int) int64 {
	cost := func(t int64) int64 {
		at := slices.Clone(x)
		at[i] += t
		return costBySteps(p, at)
	}
	best := int64(0)
	for size := int64(1) << 17; size > 0; size /= 2 {
		for _, by := range []int64{size, -size} {
			for cost(best+by) < cost(best) {
				best += by
			}
		}
	}
	switch {
	case best > 0 && cost(best-1) == cost(best):
		best--
	case best < 0 && cost(best+1) == cost(best):
		best++
	}
	return best
}

// bestByAll holds all t that are near against each other, those nearer to 0 first, and t ahead of -t.
func bestByAll(p impl.Problem, x []int64, i int, far int64) int64 {
	best, least := int64(0), costBySteps(p, x)
	for size := int64(1); size <= far; size++ {
		for _, by := range []int64{size, -size} {
			at := slices.Clone(x)
			at[i] += by
			if cost := costBySteps(p, at); cost < least {
				best, least = by, cost
			}
		}
	}
	return best
}

func descendBySteps(p impl.Problem, x []int64, most int64, best func(p impl.Problem, x []int64, i int) int64) []impl.Move {
	x = slices.Clone(x)
	var moves []impl.Move
	for {
		before := len(moves)
		for i := range x {
			if int64(len(moves)) == most {
				return moves
			}
			if by := best(p, x, i); by != 0 {
				x[i] += by
				moves = append(moves, impl.Move{I: int64(i), By: by, Cost: costBySteps(p, x)})
			}
		}
		if len(moves) == before {
			return moves
		}
	}
}

func descends(t *testing.T, p impl.Problem, x []int64, most int64) {
	t.Helper()
	want := descendBySteps(p, x, most, bestBySearch)
	if got, ok := impl.Descend(p, x, most); !slices.Equal(got, want) || !ok {
		t.Errorf("Descend(%v, %v, %d) = %v, %v and not %v", p, x, most, got, ok, want)
	}
}

func TestDescendByHand(t *testing.T) {
	two := problemOf([]int64{0, 0}, []int64{1, 1}, seen(10, 2, 1, 1))
	half := problemOf([]int64{0}, []int64{1}, seen(1, 1, 1))
	below := problemOf([]int64{0}, []int64{1}, seen(-1, 1, 1))
	third := problemOf([]int64{0}, []int64{1}, seen(1, 2, 1))
	steep := problemOf([]int64{0}, []int64{5}, seen(5, 1, 5), seen(0, 2, 0))
	for _, c := range []struct {
		p    impl.Problem
		x    []int64
		want []impl.Move
	}{
		{two, []int64{0, 0}, []impl.Move{{I: 0, By: 7, Cost: 67}, {I: 1, By: 2, Cost: 55}, {I: 0, By: -2, Cost: 47}, {I: 1, By: 1, Cost: 42}}},
		{two, []int64{5, 3}, nil}, {two, []int64{3, 5}, nil}, {two, []int64{4, 4}, nil},
		{two, []int64{5, 4}, []impl.Move{{I: 0, By: -1, Cost: 40}}},
		{two, []int64{4, 5}, []impl.Move{{I: 0, By: -1, Cost: 42}}},
		{two, []int64{4, 0}, []impl.Move{{I: 0, By: 3, Cost: 67}, {I: 1, By: 2, Cost: 55}, {I: 0, By: -2, Cost: 47}, {I: 1, By: 1, Cost: 42}}},
		// No row: the guess itself, in one move.
		{problemOf([]int64{500, -500}, []int64{1, 5}), []int64{-500, 500}, []impl.Move{{I: 0, By: 1000, Cost: 5000000}, {I: 1, By: -1000, Cost: 0}}},
		{problemOf([]int64{4, 4, 4}, []int64{1, 1, 1}), []int64{4, 3, 4}, []impl.Move{{I: 1, By: 1, Cost: 0}}},
		{problemOf([]int64{4, 4, 4}, []int64{1, 1, 1}), []int64{4, 4, 4}, nil},
		{problemOf([]int64{4}, []int64{2}, seen(500, 5, 0), seen(-500, 5, 0)), []int64{1}, []impl.Move{{I: 0, By: 3, Cost: 2500000}}},
		// t and t + 1 are alike: the one that is nearer to 0, which may be 0 itself.
		{half, []int64{0}, nil}, {half, []int64{1}, nil}, {below, []int64{0}, nil}, {below, []int64{-1}, nil},
		{half, []int64{-1}, []impl.Move{{I: 0, By: 1, Cost: 1}}}, {half, []int64{2}, []impl.Move{{I: 0, By: -1, Cost: 1}}},
		{half, []int64{5}, []impl.Move{{I: 0, By: -4, Cost: 1}}}, {half, []int64{-5}, []impl.Move{{I: 0, By: 5, Cost: 1}}},
		{below, []int64{5}, []impl.Move{{I: 0, By: -5, Cost: 1}}}, {below, []int64{-5}, []impl.Move{{I: 0, By: 4, Cost: 1}}},
		{half, []int64{500}, []impl.Move{{I: 0, By: -499, Cost: 1}}}, {below, []int64{-500}, []impl.Move{{I: 0, By: 499, Cost: 1}}},
		// 2/3 is nearer to 1, -2/3 to -1.
		{third, []int64{0}, []impl.Move{{I: 0, By: 1, Cost: 1}}}, {third, []int64{1}, nil}, {third, []int64{2}, []impl.Move{{I: 0, By: -1, Cost: 1}}}, {third, []int64{-1}, []impl.Move{{I: 0, By: 2, Cost: 1}}},
		// 25/30 from 0 on.
		{steep, []int64{0}, []impl.Move{{I: 0, By: 1, Cost: 5}}}, {steep, []int64{1}, nil}, {steep, []int64{-2}, []impl.Move{{I: 0, By: 3, Cost: 5}}}, {steep, []int64{3}, []impl.Move{{I: 0, By: -2, Cost: 5}}},
	} {
		if got, ok := impl.Descend(c.p, c.x, 500); !slices.Equal(got, c.want) || !ok {
			t.Errorf("Descend(%v, %v, 500) = %v, %v", c.p, c.x, got, ok)
		}
		for most := range int64(7) {
			want := c.want[:min(most, int64(len(c.want)))]
			if got, ok := impl.Descend(c.p, c.x, most); !slices.Equal(got, want) || !ok {
				t.Errorf("Descend(%v, %v, %d) = %v, %v", c.p, c.x, most, got, ok)
			}
		}
	}
}

// slowProblem goes down a narrow valley by more than 500 moves, each of some few steps.
func slowProblem() (impl.Problem, []int64) {
	return problemOf([]int64{500, -500}, []int64{1, 1}, times(6, seen(0, 5, 5, 5))...), []int64{-500, 500}
}

func TestAsManyMovesAsMayBe(t *testing.T) {
	p, x := slowProblem()
	all, ok := impl.Descend(p, x, 500)
	if !ok || len(all) != 500 || !slices.Equal(all, descendBySteps(p, x, 500, bestBySearch)) {
		t.Fatal(len(all), ok)
	}
	for _, most := range []int64{0, 1, 2, 3, 250, 499} {
		if some, ok := impl.Descend(p, x, most); !ok || !slices.Equal(some, all[:most]) {
			t.Error(most, len(some), ok)
		}
	}
	for _, m := range all {
		x[m.I] += m.By
	}
	if impl.Certified(p, x) {
		t.Error("moves are left")
	}
	rest, ok := impl.Descend(p, x, 500)
	for _, m := range rest {
		x[m.I] += m.By
	}
	if !ok || len(rest) == 0 || len(rest) == 500 || !impl.Certified(p, x) {
		t.Error(len(rest), ok, x)
	}
}

// All problems of one unknown and one row of some small numbers, from all small starts.
func TestAllSmallProblems(t *testing.T) {
	far := func(p impl.Problem, x []int64, i int) int64 { return bestByAll(p, x, i, 12) }
	for _, trust := range []int64{1, 2, 3, 5} {
		for guess := int64(-2); guess <= 2; guess++ {
			for h := int64(-5); h <= 5; h++ {
				for y := int64(-3); y <= 3; y++ {
					for _, w := range []int64{1, 2, 5} {
						p := problemOf([]int64{guess}, []int64{trust}, seen(y, w, h))
						for x := int64(-3); x <= 3; x += 2 {
							want := descendBySteps(p, []int64{x}, 9, far)
							if got, ok := impl.Descend(p, []int64{x}, 9); !slices.Equal(got, want) || !ok {
								t.Fatalf("Descend(%v, %d, 9) = %v, %v and not %v", p, x, got, ok, want)
							}
						}
					}
				}
			}
		}
	}
}

func rolledProblem(d *dice, size, factor int64) impl.Problem {
	p := impl.Problem{N: 1 + d.below(6)}
	for range p.N {
		p.Guess = append(p.Guess, d.below(2*size+1)-size)
		p.Trust = append(p.Trust, 1+d.below(5))
	}
	for range d.below(impl.MaxRowsOf + 1) {
		r := impl.Row{Y: d.below(2*size+1) - size, W: 1 + d.below(5)}
		for range p.N {
			r.H = append(r.H, d.below(2*factor+1)-factor)
		}
		p.Rows = append(p.Rows, r)
	}
	return p
}

func rolledPoint(d *dice, p impl.Problem, size int64) []int64 {
	var x []int64
	for range p.N {
		x = append(x, d.below(2*size+1)-size)
	}
	return x
}

func TestRolledCosts(t *testing.T) {
	d := dice(1501)
	for range 3000 {
		p := rolledProblem(&d, 500, 5)
		x := rolledPoint(&d, p, 200000)
		if got := impl.Cost(p, x); got != costBySteps(p, x) || big.NewInt(got).Cmp(costUnwrapped(p, x)) != 0 {
			t.Fatalf("Cost(%v, %v) = %d", p, x, got)
		}
	}
}

// Promise 15: each move lowers the cost, and where none is left, no step lowers it; the order of what was observed does not matter.
func keepsFifteen(t *testing.T, d *dice, p impl.Problem, x []int64, most int64) {
	t.Helper()
	moves, ok := impl.Descend(p, x, most)
	if !ok || int64(len(moves)) > most {
		t.Fatalf("Descend(%v, %v, %d): %d moves, %v", p, x, most, len(moves), ok)
	}
	at, cost := slices.Clone(x), impl.Cost(p, x)
	for _, m := range moves {
		at[m.I] += m.By
		if m.By == 0 || m.Cost >= cost || m.Cost != impl.Cost(p, at) {
			t.Fatalf("Descend(%v, %v, %d): %v behind a cost of %d", p, x, most, m, cost)
		}
		cost = m.Cost
	}
	if int64(len(moves)) < most && !impl.Certified(p, at) {
		t.Fatalf("Descend(%v, %v, %d): a step from %v lowers the cost", p, x, most, at)
	}
	q := p
	q.Rows = shuffled(d, p.Rows)
	others, ok := impl.Descend(q, x, most)
	if !ok || !slices.Equal(moves, others) || impl.Cost(p, x) != impl.Cost(q, x) || impl.Certified(p, at) != impl.Certified(q, at) {
		t.Fatalf("%v, %v, %d: the order of the rows matters", p, x, most)
	}
}

func TestEachMoveLowersTheCost(t *testing.T) {
	d := dice(1502)
	for i := range 4000 {
		p := rolledProblem(&d, 500, 1+int64(i)%5)
		keepsFifteen(t, &d, p, rolledPoint(&d, p, 500), []int64{500, 500, d.below(12)}[i%3])
	}
	p, x := slowProblem()
	keepsFifteen(t, &d, p, x, 500)
	keepsFifteen(t, &d, p, []int64{500, -500}, 500)
	for _, p := range rightProblems() {
		for _, size := range []int64{0, 500, -500} {
			keepsFifteen(t, &d, p, times(int(p.N), size), 500)
		}
	}
}

func TestDescendBySteps(t *testing.T) {
	d := dice(1503)
	for i := range 500 {
		p := rolledProblem(&d, 500, 1+int64(i)%5)
		descends(t, p, rolledPoint(&d, p, 500), 500)
		p = rolledProblem(&d, 4, 1)
		descends(t, p, rolledPoint(&d, p, 4), d.below(9))
	}
	for _, p := range rightProblems() {
		for _, size := range []int64{0, 500, -500} {
			descends(t, p, times(int(p.N), size), 500)
		}
	}
}

func certifiedBySteps(p impl.Problem, x []int64) bool {
	for i := range x {
		for _, by := range []int64{1, -1} {
			at := slices.Clone(x)
			at[i] += by
			if at[i] >= -200000 && at[i] <= 200000 && costBySteps(p, at) < costBySteps(p, x) {
				return false
			}
		}
	}
	return true
}

func TestCertifiedByHand(t *testing.T) {
	two := problemOf([]int64{0, 0}, []int64{1, 1}, seen(10, 2, 1, 1))
	half := problemOf([]int64{0}, []int64{1}, seen(1, 1, 1))
	for _, c := range []struct {
		p    impl.Problem
		x    []int64
		want bool
	}{
		// A step of two numbers at once may lower it, as from (5, 3) to (4, 4).
		{two, []int64{5, 3}, true}, {two, []int64{3, 5}, true}, {two, []int64{4, 4}, true}, {two, []int64{0, 0}, false}, {two, []int64{5, 4}, false}, {two, []int64{4, 3}, false}, {two, []int64{4, 5}, false}, {two, []int64{2, 5}, false},
		// What is alike is not below.
		{half, []int64{0}, true}, {half, []int64{1}, true}, {half, []int64{2}, false}, {half, []int64{-1}, false},
		{problemOf([]int64{3, 3, 3, 3, 3, 3}, times(6, int64(5))), times(6, int64(3)), true}, {problemOf([]int64{3, 3, 3, 3, 3, 4}, times(6, int64(5))), times(6, int64(3)), false}, {problemOf([]int64{2, 3, 3, 3, 3, 3}, times(6, int64(5))), times(6, int64(3)), false},
		{half, []int64{200000}, false}, {half, []int64{-200000}, false}, {problemOf([]int64{500}, []int64{1}, seen(500, 5, 1)), []int64{200000}, false},
		{problemOf([]int64{0, 0}, []int64{1, 1}, seen(0, 5, 1, 5)), []int64{200000, -200000}, false},
	} {
		if got := impl.Certified(c.p, c.x); got != c.want {
			t.Errorf("Certified(%v, %v) = %v", c.p, c.x, got)
		}
	}
}

func TestCertifiedBySteps(t *testing.T) {
	d := dice(1504)
	came := map[bool]int{}
	for range 3000 {
		p := rolledProblem(&d, 3, 2)
		x := rolledPoint(&d, p, 3)
		if d.below(2) == 0 {
			moves, _ := impl.Descend(p, x, d.below(20))
			for _, m := range moves {
				x[m.I] += m.By
			}
		}
		want := certifiedBySteps(p, x)
		came[want]++
		if got := impl.Certified(p, x); got != want {
			t.Fatalf("Certified(%v, %v) = %v", p, x, got)
		}
	}
	if came[true] < 500 || came[false] < 500 {
		t.Error(came)
	}
}

func blends(t *testing.T, values, vars []int64, over, under int64) {
	t.Helper()
	if n, d := impl.Blend(values, vars); n != over || d != under {
		t.Errorf("Blend(%v, %v) = %d, %d and not %d, %d", values, vars, n, d, over, under)
	}
}

func TestBlendByHand(t *testing.T) {
	blends(t, []int64{10, 4}, []int64{2, 1}, 6, 1)
	blends(t, []int64{-1, 2}, []int64{3, 3}, 1, 2)
	blends(t, []int64{1, -2}, []int64{3, 3}, -1, 2)
	blends(t, []int64{7}, []int64{1}, 7, 1)
	blends(t, []int64{-7}, []int64{100}, -7, 1)
	blends(t, []int64{0}, []int64{100}, 0, 1)
	blends(t, []int64{5, -5}, []int64{7, 7}, 0, 1)
	blends(t, []int64{2, -3}, []int64{2, 3}, 0, 1)
	blends(t, []int64{1, 0}, []int64{1, 2}, 2, 3)
	blends(t, []int64{0, 1}, []int64{1, 2}, 1, 3)
	blends(t, []int64{0, -1}, []int64{1, 2}, -1, 3)
	blends(t, []int64{4, 6}, []int64{1, 3}, 9, 2)
	blends(t, []int64{1, 2, 3, 4, 5}, []int64{1, 1, 1, 1, 1}, 3, 1)
	blends(t, []int64{100000, 100000, 100000, 100000, 100000}, []int64{97, 89, 83, 79, 73}, 100000, 1)
	blends(t, []int64{-100000, 100000}, []int64{1, 100}, -9900000, 101)
	blends(t, times(5, int64(-100000)), times(5, int64(100)), -100000, 1)
	// The greatest denominator has the products of all but one of the variances.
	blends(t, []int64{100000, -100000, 99999, -99999, 1}, []int64{100, 99, 97, 91, 89}, 100000*99*97*91*89-100000*100*97*91*89+99999*100*99*91*89-99999*100*99*97*89+100*99*97*91, 99*97*91*89+100*97*91*89+100*99*91*89+100*99*97*89+100*99*97*91)
}

func TestBlendsThatAreNone(t *testing.T) {
	blends(t, nil, nil, 0, 0)
	blends(t, []int64{}, []int64{}, 0, 0)
	blends(t, nil, []int64{1}, 0, 0)
	blends(t, []int64{1}, nil, 0, 0)
	blends(t, times(6, int64(1)), times(6, int64(1)), 0, 0)
	blends(t, times(6, int64(1)), times(5, int64(1)), 0, 0)
	for n := 1; n <= 5; n++ {
		mild, one := riseFrom(3, n), times(n, int64(1))
		blends(t, mild, one[1:], 0, 0)
		blends(t, mild, append(one, 1), 0, 0)
		blends(t, times(n, int64(100000)), one, 100000, 1)
		blends(t, times(n, int64(-100000)), times(n, int64(100)), -100000, 1)
		for i := range n {
			for _, value := range []int64{100001, -100001, math.MaxInt64, math.MinInt64} {
				values := slices.Clone(mild)
				values[i] = value
				blends(t, values, one, 0, 0)
			}
			for _, variance := range []int64{0, 101, -1, -100, math.MaxInt64, math.MinInt64} {
				vars := slices.Clone(one)
				vars[i] = variance
				blends(t, mild, vars, 0, 0)
			}
		}
	}
}

func blendBySteps(values, vars []int64) (int64, int64) {
	over, under := new(big.Rat), new(big.Rat)
	for i, v := range vars {
		over.Add(over, big.NewRat(values[i], v))
		under.Add(under, big.NewRat(1, v))
	}
	over.Quo(over, under)
	return over.Num().Int64(), over.Denom().Int64()
}

func TestBlendBySteps(t *testing.T) {
	d := dice(1505)
	for range 20000 {
		size := []int64{2, 30, 100000}[d.below(3)]
		var values, vars []int64
		for range 1 + d.below(5) {
			values, vars = append(values, d.below(2*size+1)-size), append(vars, 1+d.below(min(size, 100)))
		}
		over, under := blendBySteps(values, vars)
		blends(t, values, vars, over, under)
	}
	for a := int64(-4); a <= 4; a++ {
		for b := int64(-4); b <= 4; b++ {
			for v := int64(1); v <= 100; v++ {
				for _, w := range []int64{1, 2, 12, 99, 100} {
					over, under := blendBySteps([]int64{a, b}, []int64{v, w})
					blends(t, []int64{a, b}, []int64{v, w}, over, under)
				}
			}
		}
	}
}
