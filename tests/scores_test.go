package tests

import (
	"math"
	"math/big"
	"math/bits"
	"slices"
	"testing"

	"loop.example/g00051/impl"
)

func TestScoreNumbers(t *testing.T) {
	if impl.MaxMembers != 60 || impl.MaxTold != 1000 {
		t.Error(impl.MaxMembers, impl.MaxTold)
	}
}

// wrongMembers are none, too many, or have a number that is out of bounds.
func wrongMembers() [][]int64 {
	wrong := [][]int64{nil, {}, times(61, int64(0)), times(62, int64(5)), times(5000, int64(1))}
	for _, n := range []int{1, 2, 7, 60} {
		for _, at := range []int{0, n / 2, n - 1} {
			for _, number := range []int64{1000001, -1000001, math.MaxInt64, math.MinInt64, 1 << 32} {
				members := times(n, int64(3))
				members[at] = number
				wrong = append(wrong, members)
			}
		}
	}
	return wrong
}

func TestWrongMembers(t *testing.T) {
	for _, members := range wrongMembers() {
		for _, x := range []int64{0, 3, -1000000, 1000000, math.MaxInt64, math.MinInt64} {
			if over, rank, crps := impl.Over(members, x), impl.Rank(members, x), impl.Crps(members, x); over != -1 || rank != -1 || crps != -1 {
				t.Errorf("of %v at %d: %d, %d, %d", members, x, over, rank, crps)
			}
		}
	}
}

func TestOverAndRank(t *testing.T) {
	const most = 1000000
	for _, c := range []struct {
		members       []int64
		x, over, rank int64
	}{
		{[]int64{5}, 4, 1, 0}, {[]int64{5}, 5, 1, 0}, {[]int64{5}, 6, 0, 1},
		{[]int64{1, 3, 3, 7}, 3, 3, 1}, {[]int64{1, 3, 3, 7}, 2, 3, 1}, {[]int64{1, 3, 3, 7}, 4, 1, 3}, {[]int64{1, 3, 3, 7}, 7, 1, 3}, {[]int64{1, 3, 3, 7}, 8, 0, 4}, {[]int64{1, 3, 3, 7}, 1, 4, 0}, {[]int64{1, 3, 3, 7}, 0, 4, 0},
		{[]int64{7, 3, 1, 3}, 3, 3, 1}, {[]int64{-5, 0, 5}, 0, 2, 1}, {[]int64{-5, 0, 5}, -5, 3, 0}, {[]int64{-5, 0, 5}, -4, 2, 1}, {[]int64{-5, -5, -5}, -5, 3, 0}, {[]int64{-5, -5, -5}, -4, 0, 3},
		{[]int64{most, -most}, most, 1, 1}, {[]int64{most, -most}, most + 1, 0, 2}, {[]int64{most, -most}, -most, 2, 0}, {[]int64{most, -most}, -most + 1, 1, 1}, {[]int64{most, -most}, -most - 1, 2, 0},
		{[]int64{most, -most}, math.MaxInt64, 0, 2}, {[]int64{most, -most}, math.MinInt64, 2, 0}, {[]int64{0}, math.MaxInt64, 0, 1}, {[]int64{0}, math.MinInt64, 1, 0},
		{riseFrom(1, 60), 30, 31, 29}, {times(60, int64(9)), 9, 60, 0}, {times(60, int64(9)), 10, 0, 60},
	} {
		if over, rank := impl.Over(c.members, c.x), impl.Rank(c.members, c.x); over != c.over || rank != c.rank {
			t.Errorf("of %v at %d: %d, %d", c.members, c.x, over, rank)
		}
	}
}

func TestCrpsByHand(t *testing.T) {
	const most = 1000000
	for _, c := range []struct {
		members []int64
		x, want int64
	}{
		{[]int64{4}, 4, 0}, {[]int64{4}, 5, 2}, {[]int64{4}, 1, 6}, {[]int64{-4}, 4, 16}, {[]int64{4, 4}, 4, 0}, {[]int64{4, 4}, 5, 8}, {[]int64{4, 6}, 5, 4}, {[]int64{4, 6}, 4, 4}, {[]int64{4, 6}, 7, 12}, {[]int64{6, 4}, 7, 12},
		{[]int64{1, 3, 3, 7}, 3, 12}, {[]int64{1, 3, 3, 7}, 4, 28}, {[]int64{0, 0, 9}, 0, 18}, {[]int64{0, 0, 9}, 9, 72},
		{[]int64{most}, -most, 4 * most}, {[]int64{-most}, most, 4 * most}, {[]int64{most, -most}, 0, 4 * most}, {[]int64{most, -most}, most, 4 * most},
		{times(60, int64(most)), -most, 2 * 60 * 60 * 2 * most}, {times(60, int64(-most)), most, 2 * 60 * 60 * 2 * most}, {times(60, int64(most)), most, 0},
		{append(times(30, int64(most)), times(30, int64(-most))...), most, 2*60*30*2*most - 2*30*30*2*most},
	} {
		if got := impl.Crps(c.members, c.x); got != c.want {
			t.Errorf("Crps(%v, %d) = %d and not %d", c.members, c.x, got, c.want)
		}
	}
	for _, x := range []int64{most + 1, -most - 1, math.MaxInt64, math.MinInt64} {
		for _, members := range [][]int64{{0}, {most}, {-most}, times(60, int64(1))} {
			if got := impl.Crps(members, x); got != -1 {
				t.Errorf("Crps(%v, %d) = %d", members, x, got)
			}
		}
	}
}

// crpsBySteps counts in one pass over all numbers between: at each unit the share of members at or below it is held against whether x is.
func crpsBySteps(members []int64, x int64) int64 {
	sum := int64(0)
	low, high := min(x, slices.Min(members)), max(x, slices.Max(members))
	n := int64(len(members))
	for at := low; at < high; at++ {
		off := countBelow(members, at+1)
		if x <= at {
			off -= n
		}
		sum += off * off
	}
	// Twice the square of N times the whole of the squares.
	return 2 * sum
}

func countBelow(members []int64, x int64) int64 {
	count := int64(0)
	for _, m := range members {
		if m < x {
			count++
		}
	}
	return count
}

func rolledMembers(d *dice, count int, most int64) []int64 {
	var members []int64
	for range count {
		members = append(members, d.below(2*most+1)-most)
	}
	return members
}

func TestScoresBySteps(t *testing.T) {
	d := dice(1801)
	for i := range 3000 {
		members := rolledMembers(&d, 1+i%60, []int64{2, 10, 300}[i%3])
		x := d.below(801) - 400
		if i%2 == 0 {
			x = members[d.below(int64(len(members)))] + d.below(3) - 1
		}
		if got := impl.Crps(members, x); got != crpsBySteps(members, x) {
			t.Fatalf("Crps(%v, %d) = %d", members, x, got)
		}
		below := countBelow(members, x)
		if got := impl.Rank(members, x); got != below {
			t.Fatalf("Rank(%v, %d) = %d", members, x, got)
		}
		// Promise 18: counts hold all.
		if got := impl.Over(members, x); got != int64(len(members))-below {
			t.Fatalf("Over(%v, %d) = %d", members, x, got)
		}
		// The order of the members does not matter.
		if other := shuffled(&d, members); impl.Crps(other, x) != impl.Crps(members, x) || impl.Rank(other, x) != below {
			t.Fatalf("%v and %v at %d", members, other, x)
		}
	}
}

// Promise 18: no score is better than at what came, alone or over all that came.
func TestCrpsIsProper(t *testing.T) {
	rows := append(allRows(1, -2, 0, 1, 5), append(allRows(2, -2, 0, 1, 5), allRows(3, -2, 0, 1, 5)...)...)
	for _, came := range rows {
		n := len(came)
		for _, x := range came {
			if got := impl.Crps(times(n, x), x); got != 0 {
				t.Errorf("Crps of all at %d: %d", x, got)
			}
		}
		best := int64(0)
		for _, x := range came {
			best += impl.Crps(came, x)
		}
		for _, members := range rows {
			sum := int64(0)
			for _, x := range came {
				got := impl.Crps(members, x)
				if right := !slices.ContainsFunc(members, func(m int64) bool { return m != x }); got < 0 || (got == 0) != right {
					t.Fatalf("Crps(%v, %d) = %d", members, x, got)
				}
				sum += got
			}
			if len(members) == n && sum < best {
				t.Fatalf("of %v %v has %d, and they themselves %d", came, members, sum, best)
			}
		}
	}
}

func TestCrpsIsNeverBelowNothing(t *testing.T) {
	d := dice(1802)
	for i := range 3000 {
		members := rolledMembers(&d, 1+i%60, 1000000)
		x := d.below(2000001) - 1000000
		got := impl.Crps(members, x)
		want := new(big.Int)
		for _, m := range members {
			for range 2 * len(members) {
				want.Add(want, big.NewInt(max(m-x, x-m)))
			}
			for _, o := range members {
				want.Sub(want, big.NewInt(max(m-o, o-m)))
			}
		}
		if got < 0 || want.Cmp(big.NewInt(got)) != 0 {
			t.Fatalf("Crps(%v, %d) = %d and not %v", members, x, got, want)
		}
		if at := impl.Crps(times(len(members), x), x); at != 0 || got < at {
			t.Fatalf("Crps of all at %d: %d", x, at)
		}
	}
}

func probOf(p int64, hit bool) impl.Prob {
	return impl.Prob{P: p, Hit: hit}
}

// wrongTold are too long or have a P that is none.
func wrongTold() [][]impl.Prob {
	wrong := [][]impl.Prob{times(1001, probOf(50, true)), times(1001, impl.Prob{}), times(3000, probOf(100, false))}
	for _, n := range []int{1, 2, 9, 1000} {
		for _, at := range []int{0, n / 2, n - 1} {
			for _, p := range []int64{-1, 101, -100, 200, math.MaxInt64, math.MinInt64, 1 << 32} {
				list := times(n, probOf(40, at%2 == 0))
				list[at] = probOf(p, n%2 == 0)
				wrong = append(wrong, list)
			}
		}
	}
	return wrong
}

func TestWrongProbs(t *testing.T) {
	for i, list := range wrongTold() {
		if got := impl.Brier(list); got != -1 {
			t.Errorf("list %d: Brier %d", i, got)
		}
		if got := impl.Reliable(list); len(got) != 0 {
			t.Errorf("list %d: Reliable %v", i, got)
		}
		for _, p := range []int64{-1, 0, 50, 100, 101, math.MaxInt64, math.MinInt64} {
			if got := impl.Table(list, p); got != (impl.Counts{}) {
				t.Errorf("list %d: Table %v at %d", i, got, p)
			}
		}
	}
}

func TestBrierOfEach(t *testing.T) {
	for p := int64(0); p <= 100; p++ {
		for _, c := range []struct {
			hit  bool
			want int64
		}{{true, (100 - p) * (100 - p)}, {false, p * p}} {
			for _, n := range []int{1, 2, 1000} {
				if got := impl.Brier(times(n, probOf(p, c.hit))); got != int64(n)*c.want {
					t.Errorf("%d times %d, %v: %d", n, p, c.hit, got)
				}
			}
		}
	}
	for _, list := range [][]impl.Prob{nil, {}} {
		if got := impl.Brier(list); got != 0 {
			t.Error("of nothing", got)
		}
	}
	if got := impl.Brier([]impl.Prob{probOf(90, true), probOf(20, false), probOf(100, false), probOf(30, true)}); got != 100+400+10000+4900 {
		t.Error(got)
	}
	if got := impl.Brier(append(times(500, probOf(0, true)), times(500, probOf(100, false))...)); got != 10000000 {
		t.Error("the worst", got)
	}
}

// Promise 18: none is better than at what came: of h in n that came so, no P has less than that nearest to 100 h by n.
func TestBrierIsProper(t *testing.T) {
	for n := range 26 {
		for h := range n + 1 {
			list := func(p int64) []impl.Prob {
				return append(times(h, probOf(p, true)), times(n-h, probOf(p, false))...)
			}
			for p := int64(0); n > 0 && p < 100; p++ {
				here, next := impl.Brier(list(p)), impl.Brier(list(p+1))
				// The middle of p and p + 1 against the share, doubled.
				if middle, share := (2*p+1)*int64(n), 200*int64(h); middle < share && here <= next || middle > share && here >= next || middle == share && here != next {
					t.Fatalf("%d of %d: %d at %d, then %d", h, n, here, p, next)
				}
			}
			if all := append(times(h, probOf(100, true)), times(n-h, probOf(0, false))...); impl.Brier(all) != 0 {
				t.Fatalf("what came has %d", impl.Brier(all))
			}
		}
	}
}

func TestReliableByHand(t *testing.T) {
	for _, c := range []struct{ p, bin int64 }{{0, 0}, {1, 0}, {9, 0}, {10, 1}, {11, 1}, {19, 1}, {20, 2}, {49, 4}, {50, 5}, {89, 8}, {90, 9}, {99, 9}, {100, 10}} {
		for _, n := range []int{1, 3, 1000} {
			want := make([]impl.Bin, 11)
			want[c.bin].Count = int64(n)
			if got := impl.Reliable(times(n, probOf(c.p, false))); !slices.Equal(got, want) {
				t.Errorf("%d times %d: %v", n, c.p, got)
			}
			want[c.bin].Hits = int64(n)
			if got := impl.Reliable(times(n, probOf(c.p, true))); !slices.Equal(got, want) {
				t.Errorf("%d times %d, hit: %v", n, c.p, got)
			}
		}
	}
	for _, list := range [][]impl.Prob{nil, {}} {
		if got := impl.Reliable(list); !slices.Equal(got, make([]impl.Bin, 11)) {
			t.Error("of nothing", got)
		}
	}
}

func TestTableByHand(t *testing.T) {
	list := []impl.Prob{probOf(90, true), probOf(20, false), probOf(100, false), probOf(30, true)}
	for _, c := range []struct {
		p    int64
		want impl.Counts
	}{
		{math.MinInt64, impl.Counts{Hits: 2, False: 2}}, {-1, impl.Counts{Hits: 2, False: 2}}, {0, impl.Counts{Hits: 2, False: 2}}, {20, impl.Counts{Hits: 2, False: 2}}, {21, impl.Counts{Hits: 2, False: 1, None: 1}}, {30, impl.Counts{Hits: 2, False: 1, None: 1}},
		{31, impl.Counts{Hits: 1, Misses: 1, False: 1, None: 1}}, {90, impl.Counts{Hits: 1, Misses: 1, False: 1, None: 1}}, {91, impl.Counts{Misses: 2, False: 1, None: 1}}, {100, impl.Counts{Misses: 2, False: 1, None: 1}}, {101, impl.Counts{Misses: 2, None: 2}}, {math.MaxInt64, impl.Counts{Misses: 2, None: 2}},
	} {
		if got := impl.Table(list, c.p); got != c.want {
			t.Errorf("Table at %d: %v", c.p, got)
		}
		if got := impl.Table(nil, c.p); got != (impl.Counts{}) {
			t.Errorf("Table of nothing at %d: %v", c.p, got)
		}
	}
	// At 0 a P of 0 is a yes, at 1 it is none.
	if got := impl.Table([]impl.Prob{probOf(0, true), probOf(0, false)}, 0); got != (impl.Counts{Hits: 1, False: 1}) {
		t.Error(got)
	}
	if got := impl.Table([]impl.Prob{probOf(0, true), probOf(0, false)}, 1); got != (impl.Counts{Misses: 1, None: 1}) {
		t.Error(got)
	}
}

func rolledTold(d *dice, count int64) []impl.Prob {
	var list []impl.Prob
	for range count {
		list = append(list, probOf([]int64{d.below(101), d.below(11) * 10, d.below(10)*10 + 9}[d.below(3)], d.below(2) == 0))
	}
	return list
}

// Promise 18: counts and bins hold all.
func TestCountsAndBinsHoldAll(t *testing.T) {
	d := dice(1803)
	for i := range 600 {
		list := rolledTold(&d, []int64{d.below(20), d.below(1001), 1000}[i%3])
		sum, hits := int64(0), int64(0)
		want := make([]impl.Bin, 11)
		for _, told := range list {
			off := told.P
			bin := &want[binBySteps(told.P)]
			bin.Count++
			if told.Hit {
				off = 100 - told.P
				hits++
				bin.Hits++
			}
			sum += off * off
		}
		if got := impl.Brier(list); got != sum {
			t.Fatalf("Brier(%v) = %d and not %d", list, got, sum)
		}
		if got := impl.Reliable(list); !slices.Equal(got, want) {
			t.Fatalf("Reliable(%v) = %v and not %v", list, got, want)
		}
		p := d.below(103) - 1
		got := impl.Table(list, p)
		if got.Hits+got.Misses != hits || got.False+got.None != int64(len(list))-hits {
			t.Fatalf("Table(%v, %d) = %v", list, p, got)
		}
		if yes := countYes(list, p, true); got.Hits != yes {
			t.Fatalf("Table(%v, %d) = %v", list, p, got)
		}
		if yes := countYes(list, p, false); got.False != yes {
			t.Fatalf("Table(%v, %d) = %v", list, p, got)
		}
	}
}

// binBySteps counts the tens that are at or below it.
func binBySteps(p int64) int {
	bin := 0
	for ten := int64(10); ten <= p; ten += 10 {
		bin++
	}
	return bin
}

func countYes(list []impl.Prob, p int64, hit bool) int64 {
	kept := slices.DeleteFunc(slices.Clone(list), func(told impl.Prob) bool { return told.P < p || told.Hit != hit })
	return int64(len(kept))
}

// Bins and tables tell the same: at 10, 20, .. 100 the yeses are those of the bins from there on.
func TestTablesAgainstBins(t *testing.T) {
	d := dice(1804)
	for range 200 {
		list := rolledTold(&d, d.below(300))
		bins := impl.Reliable(list)
		for k := range bins {
			var yes impl.Bin
			for _, b := range bins[k:] {
				yes.Count, yes.Hits = yes.Count+b.Count, yes.Hits+b.Hits
			}
			if got := impl.Table(list, int64(10*k)); got.Hits != yes.Hits || got.Hits+got.False != yes.Count {
				t.Fatalf("Table(%v, %d) = %v, bins %v", list, 10*k, got, bins)
			}
		}
	}
}

// permutedBySteps goes through all sets of places.
func permutedBySteps(a, b []int64) (int64, int64) {
	places := slices.Concat(a, b)
	reached, ways := int64(0), int64(0)
	for set := range uint(1) << len(places) {
		if bits.OnesCount(set) != len(a) {
			continue
		}
		sum := int64(0)
		for i, n := range places {
			if set>>i&1 == 1 {
				sum += n
			}
		}
		if ways++; sum >= totalOf(a) {
			reached++
		}
	}
	return reached, ways
}

func TestPermutedByHand(t *testing.T) {
	const most = 1000000
	for _, c := range []struct {
		a, b          []int64
		reached, ways int64
	}{
		{[]int64{5, 4}, []int64{1, 2}, 1, 6}, {[]int64{1}, []int64{1, 2}, 3, 3}, {[]int64{2}, []int64{1, 2}, 2, 3}, {[]int64{2}, []int64{1, 1}, 1, 3}, {[]int64{0}, []int64{0}, 2, 2}, {[]int64{0}, []int64{1}, 2, 2}, {[]int64{1}, []int64{0}, 1, 2}, {[]int64{-1}, []int64{0}, 2, 2}, {[]int64{-1}, []int64{-2}, 1, 2}, {[]int64{-2}, []int64{-1}, 2, 2},
		{[]int64{1, 2}, []int64{5, 4}, 6, 6}, {[]int64{1, 5}, []int64{2, 4}, 4, 6}, {[]int64{3, 3}, []int64{3, 3}, 6, 6}, {[]int64{3, 4}, []int64{3, 3}, 3, 6}, {[]int64{-3, -4}, []int64{-3, -3}, 6, 6},
		{[]int64{9}, riseFrom(1, 8), 1, 9}, {[]int64{0}, riseFrom(1, 8), 9, 9}, {riseFrom(1, 8), []int64{0}, 1, 9}, {riseFrom(1, 8), []int64{9}, 9, 9},
		{riseFrom(9, 8), riseFrom(1, 8), 1, 12870}, {riseFrom(1, 8), riseFrom(9, 8), 12870, 12870}, {times(8, int64(7)), times(8, int64(7)), 12870, 12870}, {times(8, int64(8)), times(8, int64(7)), 1, 12870},
		{times(8, int64(most)), times(8, int64(-most)), 1, 12870}, {times(8, int64(-most)), times(8, int64(most)), 12870, 12870}, {[]int64{most}, []int64{-most}, 1, 2}, {[]int64{-most}, []int64{most}, 2, 2},
	} {
		if reached, ways := impl.Permuted(c.a, c.b); reached != c.reached || ways != c.ways {
			t.Errorf("Permuted(%v, %v) = %d, %d and not %d, %d", c.a, c.b, reached, ways, c.reached, c.ways)
		}
	}
}

func TestWrongSamples(t *testing.T) {
	wrong := [][]int64{nil, {}, times(9, int64(1)), times(10, int64(0)), times(17, int64(0)), times(5000, int64(2))}
	for _, n := range []int{1, 2, 8} {
		for _, at := range []int{0, n - 1} {
			for _, number := range []int64{1000001, -1000001, math.MaxInt64, math.MinInt64} {
				list := times(n, int64(4))
				list[at] = number
				wrong = append(wrong, list)
			}
		}
	}
	for _, list := range wrong {
		for _, other := range append([][]int64{{1}, {1, 2}, riseFrom(1, 8)}, list) {
			for _, pair := range [][2][]int64{{list, other}, {other, list}} {
				if reached, ways := impl.Permuted(pair[0], pair[1]); reached != 0 || ways != 0 {
					t.Errorf("Permuted(%v, %v) = %d, %d", pair[0], pair[1], reached, ways)
				}
			}
		}
	}
}

// Promise 18: permutations are exact.
func TestPermutedBySteps(t *testing.T) {
	d := dice(1805)
	for n := 1; n <= 8; n++ {
		for m := 1; m <= 8; m++ {
			for _, most := range []int64{1, 3, 50, 1000000} {
				a, b := rolledMembers(&d, n, most), rolledMembers(&d, m, most)
				reached, ways := impl.Permuted(a, b)
				wantReached, wantWays := permutedBySteps(a, b)
				if reached != wantReached || ways != wantWays || ways != new(big.Int).Binomial(int64(n+m), int64(n)).Int64() {
					t.Fatalf("Permuted(%v, %v) = %d, %d and not %d, %d", a, b, reached, ways, wantReached, wantWays)
				}
				if reached < 1 || reached > ways {
					t.Fatalf("Permuted(%v, %v) = %d, %d", a, b, reached, ways)
				}
				if again, all := impl.Permuted(shuffled(&d, a), shuffled(&d, b)); again != reached || all != ways {
					t.Fatalf("Permuted(%v, %v) hangs on their order", a, b)
				}
			}
		}
	}
}

func TestAllSmallSamples(t *testing.T) {
	var samples [][]int64
	for n := 1; n <= 3; n++ {
		samples = append(samples, allRows(n, -1, 0, 2)...)
	}
	for _, a := range samples {
		for _, b := range samples {
			reached, ways := impl.Permuted(a, b)
			if wantReached, wantWays := permutedBySteps(a, b); reached != wantReached || ways != wantWays {
				t.Fatalf("Permuted(%v, %v) = %d, %d", a, b, reached, ways)
			}
		}
	}
}
