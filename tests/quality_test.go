package tests

import (
	"math"
	"slices"
	"sort"
	"testing"

	"loop.example/g00051/impl"
)

func TestQualityNumbers(t *testing.T) {
	got := []int64{impl.MaxStations, impl.MaxReads, impl.QGone, impl.QTwice, impl.QLimit, impl.QStep, impl.QBuddy, impl.QGuess, impl.QBlack}
	if want := []int64{100, 300, 1, 2, 4, 8, 16, 32, 64}; !slices.Equal(got, want) {
		t.Error(got, "and not", want)
	}
}

func readOf(station, at int64, x float64) impl.Read {
	return impl.Read{Station: station, T: at, X: x}
}

func judgedOf(station, at int64, x float64, flags int64) impl.Judged {
	return impl.Judged{Station: station, T: at, X: x, Flags: flags}
}

func siteOf(station, east, north int64) impl.Place {
	return impl.Place{Station: station, East: east, North: north}
}

// mildRules flag nothing that lies within -1000 .. 1000.
func mildRules() impl.Rules {
	return impl.Rules{Low: -1000, High: 1000, Rate: 1e9, Radius: 10, Tol: 1e9, Guess: 0, Off: 1e9}
}

// rowOf is as many places side by side, one apart, of the stations 1, 2 ..
func rowOf(count int64) []impl.Place {
	var places []impl.Place
	for i := range count {
		places = append(places, siteOf(i+1, i, 0))
	}
	return places
}

func sameRead(a, b impl.Read) bool {
	return a.Station == b.Station && a.T == b.T && sameFloat(a.X, b.X)
}

func sameJudged(a, b impl.Judged) bool {
	return a.Station == b.Station && a.T == b.T && sameFloat(a.X, b.X) && a.Flags == b.Flags
}

// judges holds what is judged against what is wanted, for the reads as they come and turned round.
func judges(t *testing.T, rules impl.Rules, places []impl.Place, reads []impl.Read, want ...impl.Judged) {
	t.Helper()
	turned := slices.Clone(reads)
	slices.Reverse(turned)
	for _, list := range [][]impl.Read{reads, turned} {
		if got, ok := impl.Judge(rules, places, list); !ok || !slices.EqualFunc(got, want, sameJudged) {
			t.Errorf("Judge(%v) = %v, %t, and not %v", list, got, ok, want)
		}
	}
}

func refusesToJudge(t *testing.T, what any, rules impl.Rules, places []impl.Place, reads []impl.Read) {
	t.Helper()
	if got, ok := impl.Judge(rules, places, reads); ok || len(got) != 0 {
		t.Error(what, got, ok)
	}
}

func TestRulesThatAreRight(t *testing.T) {
	places, reads := rowOf(2), []impl.Read{readOf(1, 0, 5), readOf(2, 0, 6)}
	fields := map[string]func(r *impl.Rules) *float64{
		"Low": func(r *impl.Rules) *float64 { return &r.Low }, "High": func(r *impl.Rules) *float64 { return &r.High }, "Rate": func(r *impl.Rules) *float64 { return &r.Rate },
		"Tol": func(r *impl.Rules) *float64 { return &r.Tol }, "Guess": func(r *impl.Rules) *float64 { return &r.Guess }, "Off": func(r *impl.Rules) *float64 { return &r.Off },
	}
	for name, field := range fields {
		for _, x := range []float64{none, payload, high, low} {
			rules := mildRules()
			*field(&rules) = x
			refusesToJudge(t, name, rules, places, reads)
			refusesToJudge(t, name, rules, nil, nil)
		}
		for _, x := range []float64{0, below0, least, 7, most} {
			rules := mildRules()
			*field(&rules) = x
			if name == "Low" && x > 1000 {
				rules.High = x
			}
			if got, ok := impl.Judge(rules, places, reads); !ok || len(got) != 2 {
				t.Error(name, x, got, ok)
			}
		}
	}
	for _, name := range []string{"Rate", "Tol", "Off"} {
		for _, x := range []float64{-1, -least, -most, -0.5} {
			rules := mildRules()
			*fields[name](&rules) = x
			refusesToJudge(t, name, rules, places, reads)
		}
	}
	for _, x := range []float64{-1, -most, -least} {
		rules := mildRules()
		rules.Guess = x
		if _, ok := impl.Judge(rules, places, reads); !ok {
			t.Error("Guess", x)
		}
	}
}

func TestLowAndHigh(t *testing.T) {
	for _, c := range []struct {
		low, high float64
		right     bool
	}{{5, 5, true}, {below0, 0, true}, {0, below0, true}, {-most, most, true}, {most, -most, false}, {5, 4.999, false}, {math.Nextafter(5, 6), 5, false}, {5, math.Nextafter(5, 6), true}, {0, -least, false}} {
		rules := mildRules()
		rules.Low, rules.High = c.low, c.high
		if got, ok := impl.Judge(rules, rowOf(1), []impl.Read{readOf(1, 0, 5)}); ok != c.right || ok != (len(got) == 1) {
			t.Error(c, got, ok)
		}
	}
}

func TestRadiusAndBlack(t *testing.T) {
	for radius, right := range map[int64]bool{0: true, 1: true, 999999: true, 1000000: true, 1000001: false, -1: false, math.MaxInt64: false, math.MinInt64: false, 1 << 32: false} {
		rules := mildRules()
		rules.Radius = radius
		if _, ok := impl.Judge(rules, rowOf(1), nil); ok != right {
			t.Error(radius, ok)
		}
	}
	for count, right := range map[int]bool{0: true, 1: true, 99: true, 100: true, 101: false, 300: false} {
		rules := mildRules()
		rules.Black = times[int64](count, 3)
		if _, ok := impl.Judge(rules, nil, nil); ok != right {
			t.Error(count, ok)
		}
	}
	rules := mildRules()
	rules.Black = append(times[int64](99, -5), 2)
	reads := []impl.Read{readOf(1, 0, 1), readOf(2, 0, none), readOf(2, 1, 4000), readOf(3, 0, 1)}
	judges(t, rules, rowOf(3), reads, judgedOf(1, 0, 1, 0), judgedOf(2, 0, none, impl.QGone+impl.QBlack), judgedOf(2, 1, 4000, impl.QLimit+impl.QBlack), judgedOf(3, 0, 1, 0))
	rules.Black = []int64{3, 100000, 1, 3, 1, -1, 0, math.MaxInt64}
	judges(t, rules, rowOf(3), reads[:1], judgedOf(1, 0, 1, impl.QBlack))
}

func TestPlaces(t *testing.T) {
	right := map[string][]impl.Place{
		"none": nil, "one": {siteOf(1, 0, 0)}, "the last": {siteOf(99999, 0, 0)}, "the first and the last": {siteOf(1, 0, 0), siteOf(99999, 0, 0)}, "100": rowOf(100),
		"at the ends": {siteOf(1, 1000000, -1000000), siteOf(2, -1000000, 1000000)}, "at one place": {siteOf(1, 5, 5), siteOf(2, 5, 5)},
	}
	wrong := map[string][]impl.Place{
		"101": rowOf(101), "Station 0": {siteOf(0, 0, 0), siteOf(1, 0, 0)}, "Station 100000": {siteOf(1, 0, 0), siteOf(100000, 0, 0)}, "Station -1": {siteOf(-1, 0, 0)}, "greatest": {siteOf(math.MaxInt64, 0, 0)}, "least": {siteOf(math.MinInt64, 0, 0)},
		"one twice": {siteOf(3, 0, 0), siteOf(3, 0, 0)}, "falling": {siteOf(3, 0, 0), siteOf(2, 0, 0)}, "falling at the end": {siteOf(1, 0, 0), siteOf(5, 0, 0), siteOf(4, 0, 0)},
		"East beyond": {siteOf(1, 1000001, 0)}, "East below": {siteOf(1, -1000001, 0)}, "North beyond": {siteOf(1, 0, 1000001)}, "North below": {siteOf(1, 0, -1000001)},
		"far East": {siteOf(1, math.MaxInt64, 0)}, "far North": {siteOf(1, 0, math.MinInt64)}, "the second": {siteOf(1, 0, 0), siteOf(2, 0, 1000001)},
	}
	for name, places := range right {
		var reads []impl.Read
		for _, p := range places {
			reads = append(reads, readOf(p.Station, 9, 1))
		}
		if got, ok := impl.Judge(mildRules(), places, reads); !ok || len(got) != len(places) {
			t.Error(name, got, ok)
		}
	}
	for name, places := range wrong {
		refusesToJudge(t, name, mildRules(), places, nil)
		refusesToJudge(t, name, mildRules(), places, []impl.Read{readOf(1, 0, 5)})
	}
}

// manyReads are one at each minute, of one station.
func manyReads(count int) []impl.Read {
	var reads []impl.Read
	for i := range int64(count) {
		reads = append(reads, readOf(1, i, 5))
	}
	return reads
}

func TestReads(t *testing.T) {
	if got, ok := impl.Judge(mildRules(), nil, nil); !ok || len(got) != 0 {
		t.Error("none", got, ok)
	}
	if got, ok := impl.Judge(mildRules(), rowOf(1), manyReads(300)); !ok || len(got) != 300 {
		t.Error("300", len(got), ok)
	}
	refusesToJudge(t, "301", mildRules(), rowOf(1), manyReads(301))
	refusesToJudge(t, "301 alike", mildRules(), rowOf(1), times(301, readOf(1, 5, 5)))
	judges(t, mildRules(), rowOf(1), times(300, readOf(1, 5, 5)), judgedOf(1, 5, 5, 0))
	for at, right := range map[int64]bool{0: true, 1: true, 52596000: true, 52596001: false, -1: false, math.MaxInt64: false, math.MinInt64: false} {
		got, ok := impl.Judge(mildRules(), rowOf(1), []impl.Read{readOf(1, 7, 1), readOf(1, at, 2)})
		if ok != right || len(got) != map[bool]int{true: 2}[right] {
			t.Error(at, got, ok)
		}
	}
	places := []impl.Place{siteOf(3, 0, 0), siteOf(7, 0, 0)}
	for station, right := range map[int64]bool{3: true, 7: true, 0: false, 2: false, 4: false, 5: false, 8: false, -3: false} {
		got, ok := impl.Judge(mildRules(), places, []impl.Read{readOf(3, 7, 1), readOf(station, 1, 2)})
		if ok != right || len(got) != map[bool]int{true: 2}[right] {
			t.Error(station, got, ok)
		}
	}
	refusesToJudge(t, "no places", mildRules(), nil, manyReads(1))
}

func TestOrderOfWhatIsJudged(t *testing.T) {
	reads := []impl.Read{readOf(3, 0, 1), readOf(1, 9, 2), readOf(2, 5, 3), readOf(1, 0, 4), readOf(2, 4, 5), readOf(1, 10, 6)}
	judges(t, mildRules(), rowOf(3), reads, judgedOf(1, 0, 4, 0), judgedOf(1, 9, 2, 0), judgedOf(1, 10, 6, 0), judgedOf(2, 4, 5, 0), judgedOf(2, 5, 3, 0), judgedOf(3, 0, 1, 0))
}

func TestReadsThatComeTwice(t *testing.T) {
	rules := mildRules()
	rules.Low = -most
	one := func(list ...float64) []impl.Read {
		var reads []impl.Read
		for _, x := range list {
			reads = append(reads, readOf(1, 5, x))
		}
		return reads
	}
	judges(t, rules, rowOf(1), one(7, 7), judgedOf(1, 5, 7, 0))
	judges(t, rules, rowOf(1), one(7, 7, 7), judgedOf(1, 5, 7, 0))
	judges(t, rules, rowOf(1), one(0, below0), judgedOf(1, 5, below0, impl.QTwice), judgedOf(1, 5, 0, impl.QTwice))
	judges(t, rules, rowOf(1), one(0, below0, 0, below0), judgedOf(1, 5, below0, impl.QTwice), judgedOf(1, 5, 0, impl.QTwice))
	judges(t, rules, rowOf(1), one(none, payload), judgedOf(1, 5, none, impl.QGone))
	judges(t, rules, rowOf(1), one(none, 3), judgedOf(1, 5, 3, impl.QTwice), judgedOf(1, 5, none, impl.QGone+impl.QTwice))
	judges(t, rules, rowOf(1), one(9, 3, 9, -2), judgedOf(1, 5, -2, impl.QTwice), judgedOf(1, 5, 3, impl.QTwice), judgedOf(1, 5, 9, impl.QTwice))
	judges(t, rules, rowOf(1), one(high, high), judgedOf(1, 5, high, impl.QGone))
	judges(t, rules, rowOf(1), one(high, low, none, payload, 1, below0, 0, -1, high),
		judgedOf(1, 5, low, impl.QGone+impl.QTwice), judgedOf(1, 5, -1, impl.QTwice), judgedOf(1, 5, below0, impl.QTwice), judgedOf(1, 5, 0, impl.QTwice),
		judgedOf(1, 5, 1, impl.QTwice), judgedOf(1, 5, high, impl.QGone+impl.QTwice), judgedOf(1, 5, none, impl.QGone+impl.QTwice))
	// another station, another time: nothing comes twice
	judges(t, rules, rowOf(2), []impl.Read{readOf(1, 5, 1), readOf(2, 5, 2), readOf(1, 6, 3)}, judgedOf(1, 5, 1, 0), judgedOf(1, 6, 3, 0), judgedOf(2, 5, 2, 0))
}

func TestLimits(t *testing.T) {
	rules := mildRules()
	rules.Low, rules.High = -3, 8
	for x, flags := range map[float64]int64{-3: 0, 8: 0, math.Nextafter(-3, low): 4, math.Nextafter(8, high): 4, 0: 0, most: 4 + 32, -most: 4 + 32, high: 1, low: 1} {
		judges(t, rules, rowOf(1), []impl.Read{readOf(1, 0, x)}, judgedOf(1, 0, x, flags))
	}
	judges(t, rules, rowOf(1), []impl.Read{readOf(1, 0, none)}, judgedOf(1, 0, none, 1))
	rules.Low, rules.High = 0, below0
	judges(t, rules, rowOf(1), []impl.Read{readOf(1, 0, 0), readOf(1, 1, below0)}, judgedOf(1, 0, 0, 0), judgedOf(1, 1, below0, 0))
}

// The product of Rate and the quotient, in that order, just at it and just above.
func TestStepAtItsMost(t *testing.T) {
	rules := mildRules()
	rules.Low, rules.High = -most, most
	d := dice(601)
	other := 0
	for range 3000 {
		rules.Rate = float64(1+d.below(1000)) / 10
		since := 1 + d.below(2000)
		from := d.below(1000)
		allowed := rules.Rate * (float64(since) / 60)
		if allowed != rules.Rate*float64(since)/60 {
			other++
		}
		for x, flags := range map[float64]int64{allowed: 0, -allowed: 0, math.Nextafter(allowed, high): impl.QStep, math.Nextafter(-allowed, low): impl.QStep, math.Nextafter(allowed, 0): 0} {
			judges(t, rules, rowOf(1), []impl.Read{readOf(1, from, 0), readOf(1, from+since, x)}, judgedOf(1, from, 0, 0), judgedOf(1, from+since, x, flags))
		}
	}
	if other < 100 {
		t.Error("the order shows but", other, "times")
	}
	rules.Rate = 0
	judges(t, rules, rowOf(1), []impl.Read{readOf(1, 0, 5), readOf(1, 60, 5), readOf(1, 61, math.Nextafter(5, 6))}, judgedOf(1, 0, 5, 0), judgedOf(1, 60, 5, 0), judgedOf(1, 61, math.Nextafter(5, 6), impl.QStep))
	rules.Rate = below0
	judges(t, rules, rowOf(1), []impl.Read{readOf(1, 0, 0), readOf(1, 60, below0)}, judgedOf(1, 0, 0, 0), judgedOf(1, 60, below0, 0))
}

// What an operation can't hold any more is infinite, and that is not above itself.
func TestStepsThatAreTooGreat(t *testing.T) {
	rules := mildRules()
	rules.Low, rules.High, rules.Rate, rules.Off = -most, most, most, most
	reads := []impl.Read{readOf(1, 0, most), readOf(1, 60, -most)}
	judges(t, rules, rowOf(1), reads, judgedOf(1, 0, most, 0), judgedOf(1, 60, -most, impl.QStep))
	reads[1].T = 120
	judges(t, rules, rowOf(1), reads, judgedOf(1, 0, most, 0), judgedOf(1, 120, -most, 0))
	rules.Rate, rules.Guess = 1, most
	judges(t, rules, rowOf(1), reads, judgedOf(1, 0, most, 0), judgedOf(1, 120, -most, impl.QStep+impl.QGuess))
}

func TestStepFromTheLatest(t *testing.T) {
	rules := mildRules()
	rules.Rate, rules.High = 60, 100 // one a minute
	check := func(want []impl.Judged, ahead ...impl.Read) {
		t.Helper()
		judges(t, rules, rowOf(2), append(ahead, readOf(1, 100, 50)), want...)
	}
	check([]impl.Judged{judgedOf(1, 100, 50, 0)})
	check([]impl.Judged{judgedOf(1, 90, 40, 0), judgedOf(1, 100, 50, 0)}, readOf(1, 90, 40))
	check([]impl.Judged{judgedOf(1, 90, 39, 0), judgedOf(1, 100, 50, 8)}, readOf(1, 90, 39))
	// one that steps itself is the latest all the same
	check([]impl.Judged{judgedOf(1, 80, 20, 0), judgedOf(1, 90, 45, 8), judgedOf(1, 100, 50, 0)}, readOf(1, 80, 20), readOf(1, 90, 45))
	check([]impl.Judged{judgedOf(1, 80, 40, 0), judgedOf(1, 90, 20, 8), judgedOf(1, 100, 50, 8)}, readOf(1, 80, 40), readOf(1, 90, 20))
	// those that are gone, twice or beyond the limits are passed over
	check([]impl.Judged{judgedOf(1, 80, 40, 0), judgedOf(1, 90, none, 1), judgedOf(1, 100, 50, 0)}, readOf(1, 80, 40), readOf(1, 90, none))
	check([]impl.Judged{judgedOf(1, 80, 20, 0), judgedOf(1, 90, high, 1), judgedOf(1, 100, 50, 8)}, readOf(1, 80, 20), readOf(1, 90, high))
	check([]impl.Judged{judgedOf(1, 80, 20, 0), judgedOf(1, 90, 25, 2), judgedOf(1, 90, 45, 2+8), judgedOf(1, 100, 50, 8)}, readOf(1, 80, 20), readOf(1, 90, 45), readOf(1, 90, 25))
	check([]impl.Judged{judgedOf(1, 80, 45, 0), judgedOf(1, 90, 101, 4+8), judgedOf(1, 100, 50, 0)}, readOf(1, 80, 45), readOf(1, 90, 101))
	check([]impl.Judged{judgedOf(1, 90, 101, 4), judgedOf(1, 100, 50, 0)}, readOf(1, 90, 101))
	// another read with its time, a later one, another station
	check([]impl.Judged{judgedOf(1, 100, 10, 2), judgedOf(1, 100, 50, 2)}, readOf(1, 100, 10))
	check([]impl.Judged{judgedOf(1, 90, 45, 0), judgedOf(1, 100, 10, 2+8), judgedOf(1, 100, 50, 2), judgedOf(1, 101, 99, 8)}, readOf(1, 100, 10), readOf(1, 90, 45), readOf(1, 101, 99))
	check([]impl.Judged{judgedOf(1, 100, 50, 0), judgedOf(1, 101, 10, 8)}, readOf(1, 101, 10))
	check([]impl.Judged{judgedOf(1, 100, 50, 0), judgedOf(2, 99, 10, 0)}, readOf(2, 99, 10))
	// one that is beyond the limits is asked for its own step
	judges(t, rules, rowOf(1), []impl.Read{readOf(1, 0, 0), readOf(1, 60, 120)}, judgedOf(1, 0, 0, 0), judgedOf(1, 60, 120, 4+8))
	judges(t, rules, rowOf(1), []impl.Read{readOf(1, 0, 0), readOf(1, 60, none)}, judgedOf(1, 0, 0, 0), judgedOf(1, 60, none, 1))
}

// around has reads at one time of the stations 1, 2 ..
func around(at int64, list ...float64) []impl.Read {
	var reads []impl.Read
	for i, x := range list {
		reads = append(reads, readOf(int64(i+1), at, x))
	}
	return reads
}

func flagsAre(t *testing.T, rules impl.Rules, places []impl.Place, reads []impl.Read, want ...int64) {
	t.Helper()
	got, ok := impl.Judge(rules, places, reads)
	var flags []int64
	for _, j := range got {
		flags = append(flags, j.Flags)
	}
	if !ok || !slices.Equal(flags, want) {
		t.Errorf("Judge(%v) has the flags %v and not %v", reads, flags, want)
	}
}

func TestBuddies(t *testing.T) {
	rules := mildRules()
	rules.Tol, rules.High = 5, 100
	row := rowOf(4)
	flagsAre(t, rules, row, around(0, 50), 0)
	flagsAre(t, rules, row, around(0, 50, 10), 0, 0) // one is not enough
	flagsAre(t, rules, row, around(0, 50, 44, 46), 0, 0, 0)
	flagsAre(t, rules, row, around(0, 50, 45, 45), 0, 0, 0) // just at what is asked
	flagsAre(t, rules, row, around(0, math.Nextafter(50, 51), 45, 45), 16, 0, 0)
	flagsAre(t, rules, row, around(0, 40, 45, 45), 0, 0, 0)
	flagsAre(t, rules, row, around(0, math.Nextafter(40, 39), 45, 45), 16, 0, 0)
	// gone, twice and beyond the limits are no buddies, and are asked themselves when they are known
	flagsAre(t, rules, row, around(0, 50, 10, none), 0, 0, 1)
	flagsAre(t, rules, row, around(0, 50, 10, high, 10), 16, 16, 1, 16)
	flagsAre(t, rules, row, around(0, 50, 10, 101), 0, 0, 4+16)
	flagsAre(t, rules, row, append(around(0, 50, 10, 12), readOf(3, 0, 14)), 0, 0, 2+16, 2+16)
	flagsAre(t, rules, row, append(around(0, 50, 50, 12), readOf(3, 0, 47)), 0, 0, 2+16, 2)
	flagsAre(t, rules, row, append(around(0, 50, 10), readOf(3, 1, 10)), 0, 0, 0) // another time
	flagsAre(t, rules, row, append(around(0, 50), readOf(1, 1, 10), readOf(1, 2, 10)), 0, 0, 0)
	rules.Black = []int64{2, 3}
	flagsAre(t, rules, row, around(0, 50, 10, 10), 16, 64+16, 64+16)
	rules.Black, rules.Rate = nil, 60
	flagsAre(t, rules, row, append(around(9, 50, 10, 10), readOf(2, 8, 40), readOf(3, 8, 40)), 16, 0, 8+16, 0, 8+16)
	rules.Tol = 0
	flagsAre(t, rules, row, around(0, 45, 45, 45), 0, 0, 0)
}

func TestBuddiesWithinTheRadius(t *testing.T) {
	rules := mildRules()
	rules.Tol, rules.Radius = 5, 10
	for _, c := range []struct {
		east, north int64
		near        bool
	}{{10, 0, true}, {-10, 0, true}, {0, 10, true}, {0, -10, true}, {6, 8, true}, {-8, 6, true}, {11, 0, false}, {0, -11, false}, {7, 8, false}, {8, 7, false}, {-6, -9, false}, {0, 0, true}, {10, 1, false}, {1000000, 0, false}, {1000000, 1000000, false}} {
		places := []impl.Place{siteOf(5, 0, 0), siteOf(6, 1, 0), siteOf(9, c.east, c.north)}
		flags := map[bool]int64{true: impl.QBuddy}[c.near]
		got, ok := impl.Judge(rules, places, []impl.Read{readOf(5, 0, 50), readOf(6, 0, 10), readOf(9, 0, 10)})
		if !ok || len(got) != 3 || got[0].Flags != flags {
			t.Error(c, got, ok)
		}
	}
	far := []impl.Place{siteOf(1, -1000000, 0), siteOf(2, 0, 0), siteOf(3, 0, 0), siteOf(4, 1000000, 0)}
	rules.Radius = 1000000
	flagsAre(t, rules, far, around(0, 50, 10, 10, 90), 16, 16, 16, 16)
	rules.Radius = 999999
	flagsAre(t, rules, far, around(0, 50, 10, 10, 90), 0, 0, 0, 0)
	rules.Radius = 0
	here := []impl.Place{siteOf(1, 7, 7), siteOf(2, 7, 7), siteOf(3, 7, 7), siteOf(4, 7, 8)}
	flagsAre(t, rules, here, around(0, 50, 10, 10, 90), 16, 16, 16, 0)
	rules.Radius = 1000000
	corners := []impl.Place{siteOf(1, -1000000, -1000000), siteOf(2, 1000000, 1000000), siteOf(3, 1000000, 1000000)}
	flagsAre(t, rules, corners, around(0, 50, 10, 10), 0, 0, 0)
}

func TestMeanOfBuddies(t *testing.T) {
	rules := mildRules()
	rules.Low, rules.High, rules.Rate, rules.Off = -most, most, most, most
	rules.Tol = 0
	// in the order of the stations: 1e16, 1, -1e16 make 0
	flagsAre(t, rules, rowOf(4), []impl.Read{readOf(4, 0, -1e16), readOf(2, 0, 1e16), readOf(1, 0, 0), readOf(3, 0, 1)}, 0, 16, 16, 16)
	// 1e16, -1e16, 1 make 1
	flagsAre(t, rules, rowOf(4), []impl.Read{readOf(4, 0, 1), readOf(2, 0, 1e16), readOf(1, 0, 0), readOf(3, 0, -1e16)}, 16, 16, 16, 16)
	flagsAre(t, rules, rowOf(4), []impl.Read{readOf(4, 0, 1), readOf(2, 0, 1e16), readOf(1, 0, float64(1)/3), readOf(3, 0, -1e16)}, 0, 16, 16, 16)
	// a sum that is infinite departs from all
	rules.Tol = most
	flagsAre(t, rules, rowOf(3), around(0, most, most, most), 16, 16, 16)
	flagsAre(t, rules, rowOf(3), around(0, most, most, -most), 0, 0, 16)
}

func TestGuess(t *testing.T) {
	rules := mildRules()
	rules.Guess, rules.Off = 10, 4
	for x, flags := range map[float64]int64{10: 0, 14: 0, 6: 0, math.Nextafter(14, 15): 32, math.Nextafter(6, 5): 32, -10: 32, 2000: 32 + 4, high: 1, low: 1} {
		judges(t, rules, rowOf(1), []impl.Read{readOf(1, 0, x)}, judgedOf(1, 0, x, flags))
	}
	judges(t, rules, rowOf(1), []impl.Read{readOf(1, 0, none)}, judgedOf(1, 0, none, 1))
	rules.Off = 0
	judges(t, rules, rowOf(1), []impl.Read{readOf(1, 0, 10), readOf(1, 1, math.Nextafter(10, 9))}, judgedOf(1, 0, 10, 0), judgedOf(1, 1, math.Nextafter(10, 9), 32))
}

func TestAllFlagsTogether(t *testing.T) {
	rules := impl.Rules{Low: 0, High: 20, Rate: 1, Radius: 5, Tol: 1, Guess: 10, Off: 5, Black: []int64{2}}
	reads := []impl.Read{readOf(1, 60, 10), readOf(3, 60, 11), readOf(2, 0, 10), readOf(2, 60, 30), readOf(2, 60, none)}
	judges(t, rules, rowOf(3), reads, judgedOf(1, 60, 10, 0), judgedOf(2, 0, 10, 64), judgedOf(2, 60, 30, 2+4+8+16+32+64), judgedOf(2, 60, none, 1+2+64), judgedOf(3, 60, 11, 0))
}

func absent(x float64) bool {
	return x-x != 0
}

// listBySteps takes read by read to its place, unless it is there.
func listBySteps(reads []impl.Read) []impl.Read {
	var list []impl.Read
	for _, r := range reads {
		if slices.ContainsFunc(list, func(other impl.Read) bool { return sameRead(other, r) }) {
			continue
		}
		at := sort.Search(len(list), func(i int) bool {
			l := list[i]
			return l.Station > r.Station || l.Station == r.Station && (l.T > r.T || l.T == r.T && inOrder(r.X, l.X))
		})
		list = slices.Insert(list, at, r)
	}
	return list
}

// plainBySteps has the three flags that ask for no read of another time or station.
func plainBySteps(rules impl.Rules, list []impl.Read, i int) int64 {
	flags, r := int64(0), list[i]
	if absent(r.X) {
		flags |= 1
	} else if !(r.X >= rules.Low && r.X <= rules.High) {
		flags |= 4
	}
	for k, other := range list {
		if k != i && other.Station == r.Station && other.T == r.T {
			flags |= 2
		}
	}
	return flags
}

func flagsBySteps(rules impl.Rules, places map[int64]impl.Place, list []impl.Read, i int) int64 {
	flags, r := plainBySteps(rules, list, i), list[i]
	if slices.Contains(rules.Black, r.Station) {
		flags |= 64
	}
	if absent(r.X) {
		return flags
	}
	var last *impl.Read
	sum, count := float64(0), 0
	for k, other := range list {
		if plainBySteps(rules, list, k) != 0 {
			continue
		}
		if other.Station == r.Station && other.T < r.T && (last == nil || last.T < other.T) {
			last = &list[k]
		}
		a, b := places[r.Station], places[other.Station]
		away := math.Hypot(float64(a.East-b.East), float64(a.North-b.North))
		if other.Station != r.Station && other.T == r.T && away <= float64(rules.Radius)+1e-9 {
			sum += other.X
			count++
		}
	}
	if last != nil {
		if hours := float64(r.T-last.T) / 60; r.X-last.X > rules.Rate*hours || last.X-r.X > rules.Rate*hours {
			flags |= 8
		}
	}
	if count >= 2 {
		if mean := sum / float64(count); r.X-mean > rules.Tol || mean-r.X > rules.Tol {
			flags |= 16
		}
	}
	if r.X-rules.Guess > rules.Off || rules.Guess-r.X > rules.Off {
		flags |= 32
	}
	return flags
}

func judgeBySteps(rules impl.Rules, places []impl.Place, reads []impl.Read) []impl.Judged {
	known := map[int64]impl.Place{}
	for _, p := range places {
		known[p.Station] = p
	}
	list := listBySteps(reads)
	var judged []impl.Judged
	for i, r := range list {
		judged = append(judged, judgedOf(r.Station, r.T, r.X, flagsBySteps(rules, known, list, i)))
	}
	return judged
}

func rolledRules(d *dice) impl.Rules {
	rules := impl.Rules{Low: -float64(d.below(10)), High: float64(d.below(12)), Rate: float64(d.below(8)), Radius: d.below(5), Tol: float64(d.below(6)) / 2, Guess: float64(d.below(6)), Off: float64(d.below(9))}
	for range d.below(3) {
		rules.Black = append(rules.Black, 1+d.below(7))
	}
	return rules
}

func rolledPlaces(d *dice) []impl.Place {
	var places []impl.Place
	station := int64(0)
	for range 1 + d.below(6) {
		station += 1 + d.below(2)
		places = append(places, siteOf(station, d.below(6), d.below(6)))
	}
	return places
}

func rolledReads(d *dice, places []impl.Place, count int64) []impl.Read {
	odd := []float64{none, payload, high, low, 0, below0, most, -most, 1e-9}
	var reads []impl.Read
	for range count {
		x := float64(d.below(40)-15) / 2
		if d.below(6) == 0 {
			x = odd[d.below(int64(len(odd)))]
		}
		reads = append(reads, readOf(places[d.below(int64(len(places)))].Station, 30*d.below(5), x))
	}
	return reads
}

func shuffled[T any](d *dice, list []T) []T {
	list = slices.Clone(list)
	for i := range list {
		k := d.below(int64(i + 1))
		list[i], list[k] = list[k], list[i]
	}
	return list
}

func TestJudgeBySteps(t *testing.T) {
	d := dice(602)
	came := map[int64]int{}
	for range 6000 {
		rules, places := rolledRules(&d), rolledPlaces(&d)
		reads := rolledReads(&d, places, d.below(25))
		got, ok := impl.Judge(rules, places, reads)
		if want := judgeBySteps(rules, places, reads); !ok || !slices.EqualFunc(got, want, sameJudged) {
			t.Fatalf("Judge(%v, %v, %v) = %v, %t; by steps %v", rules, places, reads, got, ok, want)
		}
		for _, j := range got {
			for flag := int64(1); flag <= 64; flag *= 2 {
				came[j.Flags&flag]++
			}
		}
	}
	cameOften(t, came, 0, 1, 2, 4, 8, 16, 32, 64)
}

// permuted calls do with each order of the list.
func permuted[T any](list []T, from int, do func([]T)) {
	if from == len(list) {
		do(list)
		return
	}
	for i := from; i < len(list); i++ {
		list[from], list[i] = list[i], list[from]
		permuted(list, from+1, do)
		list[from], list[i] = list[i], list[from]
	}
}

// Promise 10: what is judged hangs not on the order in which reads came.
func TestOrderOfReadsDoesNotMatter(t *testing.T) {
	d := dice(603)
	for range 25 {
		rules, places := rolledRules(&d), rolledPlaces(&d)
		reads := rolledReads(&d, places, 6)
		want, ok := impl.Judge(rules, places, reads)
		if !ok {
			t.Fatal(rules, places, reads)
		}
		permuted(slices.Clone(reads), 0, func(list []impl.Read) {
			if got, ok := impl.Judge(rules, places, list); !ok || !slices.EqualFunc(got, want, sameJudged) {
				t.Fatalf("Judge(%v) = %v and not %v", list, got, want)
			}
		})
	}
	for range 40 {
		rules, places := rolledRules(&d), rowOf(100)
		rules.Radius = d.below(40)
		reads := rolledReads(&d, places, 300)
		for i := range reads {
			reads[i].Station = 1 + reads[i].Station%int64(1+d.below(100))
		}
		want, _ := impl.Judge(rules, places, reads)
		if len(want) == 0 || !slices.EqualFunc(want, judgeBySteps(rules, places, reads), sameJudged) {
			t.Fatal("300 reads are judged otherwise by steps")
		}
		for range 5 {
			if got, _ := impl.Judge(rules, places, shuffled(&d, reads)); !slices.EqualFunc(got, want, sameJudged) {
				t.Fatal("the order of 300 reads matters")
			}
		}
	}
}

// Once more the reads that were judged, and nothing changes.
func TestJudgedOnceMore(t *testing.T) {
	d := dice(604)
	for range 300 {
		rules, places := rolledRules(&d), rolledPlaces(&d)
		want, _ := impl.Judge(rules, places, rolledReads(&d, places, d.below(40)))
		var again []impl.Read
		for _, j := range want {
			again = append(again, readOf(j.Station, j.T, j.X), readOf(j.Station, j.T, j.X))
		}
		if got, ok := impl.Judge(rules, places, again); !ok || !slices.EqualFunc(got, want, sameJudged) {
			t.Fatal(got, "and not", want)
		}
	}
}

func TestKept(t *testing.T) {
	list := []impl.Judged{judgedOf(3, 9, 12, 0), judgedOf(1, 0, 5, 4), judgedOf(1, 0, below0, 0), judgedOf(-7, -1, none, 0), judgedOf(1, 2, 3, 64), judgedOf(1, 2, 3, -1), judgedOf(1, 2, 3, 1<<40), judgedOf(math.MaxInt64, math.MinInt64, high, 0)}
	want := []impl.Read{readOf(3, 9, 12), readOf(1, 0, below0), readOf(-7, -1, none), readOf(math.MaxInt64, math.MinInt64, high)}
	if got := impl.Kept(list); !slices.EqualFunc(got, want, sameRead) {
		t.Error(got)
	}
	for flag := range int64(128) {
		if got := impl.Kept([]impl.Judged{judgedOf(1, 2, 3, flag)}); len(got) != map[bool]int{true: 1}[flag == 0] {
			t.Error(flag, got)
		}
	}
	for count, left := range map[int]int{0: 0, 1: 1, 299: 299, 300: 300, 301: 0, 1000: 0} {
		if got := impl.Kept(times(count, judgedOf(1, 2, 3, 0))); len(got) != left {
			t.Error(count, len(got))
		}
	}
	if got := impl.Kept(append(times(300, judgedOf(1, 2, 3, 1)), judgedOf(1, 2, 3, 0))); len(got) != 0 {
		t.Error("301", got)
	}
}

func TestBiasByHand(t *testing.T) {
	for _, c := range []struct {
		name  string
		a, b  []impl.Read
		bias  float64
		count int64
	}{
		{"none", nil, nil, none, 0},
		{"none of a", nil, []impl.Read{readOf(1, 0, 5)}, none, 0},
		{"none of b", []impl.Read{readOf(1, 0, 5)}, nil, none, 0},
		{"one", []impl.Read{readOf(1, 0, 5)}, []impl.Read{readOf(1, 0, 3)}, 2, 1},
		{"another time", []impl.Read{readOf(1, 0, 5)}, []impl.Read{readOf(1, 1, 3)}, none, 0},
		{"another station", []impl.Read{readOf(1, 0, 5)}, []impl.Read{readOf(2, 0, 3)}, none, 0},
		{"turned about", []impl.Read{readOf(1, 2, 5)}, []impl.Read{readOf(2, 1, 3)}, none, 0},
		{"a is missing", []impl.Read{readOf(1, 0, none), readOf(1, 0, 9)}, []impl.Read{readOf(1, 0, 3)}, 6, 1},
		{"a is infinite", []impl.Read{readOf(1, 0, high), readOf(1, 0, low)}, []impl.Read{readOf(1, 0, 3)}, none, 0},
		{"the first of b", []impl.Read{readOf(1, 0, 5)}, []impl.Read{readOf(1, 0, 3), readOf(1, 0, 4)}, 2, 1},
		{"the first of b is missing", []impl.Read{readOf(1, 0, 5)}, []impl.Read{readOf(1, 0, none), readOf(1, 0, 4)}, none, 0},
		{"the first of b is infinite", []impl.Read{readOf(1, 0, 5)}, []impl.Read{readOf(1, 0, low), readOf(1, 0, 4)}, none, 0},
		{"the second of b is missing", []impl.Read{readOf(1, 0, 5)}, []impl.Read{readOf(2, 0, none), readOf(1, 0, 4), readOf(1, 0, none)}, 1, 1},
		{"each of a", []impl.Read{readOf(1, 0, 5), readOf(1, 0, 5), readOf(1, 0, 8)}, []impl.Read{readOf(1, 0, 4)}, 2, 3},
		{"a quotient", []impl.Read{readOf(1, 0, 1), readOf(2, 0, 0), readOf(3, 0, 0)}, []impl.Read{readOf(3, 0, 0), readOf(2, 0, 0), readOf(1, 0, 0)}, float64(1) / 3, 3},
		{"no right stations and times", []impl.Read{readOf(-1, -1, 5), readOf(math.MaxInt64, math.MinInt64, 1)}, []impl.Read{readOf(-1, -1, 1), readOf(math.MaxInt64, math.MinInt64, 1)}, 2, 2},
		{"from the left", []impl.Read{readOf(1, 0, 1e16), readOf(2, 0, 1), readOf(3, 0, -1e16)}, around(0, 0, 0, 0), 0, 3},
		{"from the left, another order", []impl.Read{readOf(1, 0, 1e16), readOf(3, 0, -1e16), readOf(2, 0, 1)}, around(0, 0, 0, 0), float64(1) / 3, 3},
		{"a difference of noughts", []impl.Read{readOf(1, 0, below0)}, []impl.Read{readOf(1, 0, 0)}, 0, 1},
		{"a difference below 0", []impl.Read{readOf(1, 0, 3)}, []impl.Read{readOf(1, 0, 5)}, -2, 1},
		{"too great a difference", []impl.Read{readOf(1, 0, most)}, []impl.Read{readOf(1, 0, -most)}, high, 1},
		{"too great, and one more", []impl.Read{readOf(1, 0, most), readOf(2, 0, 1)}, around(0, -most, 0), high, 2},
		{"too great on both sides", []impl.Read{readOf(1, 0, most), readOf(2, 0, -most)}, around(0, -most, most), none, 2},
		{"too great a sum", []impl.Read{readOf(1, 0, -most), readOf(2, 0, -most)}, around(0, 0, 0), low, 2},
	} {
		if bias, count := impl.Bias(c.a, c.b); !sameFloat(bias, c.bias) || count != c.count {
			t.Error(c.name, bias, count)
		}
	}
}

func TestBiasOfLongLists(t *testing.T) {
	long := manyReads(301)
	for _, c := range []struct {
		a, b  []impl.Read
		bias  float64
		count int64
	}{{long[:300], long[:300], 0, 300}, {long[:300], long[299:], 0, 1}, {long[300:], long[1:], 0, 1}, {long, long[:300], none, 0}, {long[:300], long, none, 0}, {long, nil, none, 0}, {nil, long, none, 0}, {long, long, none, 0}} {
		if bias, count := impl.Bias(c.a, c.b); !sameFloat(bias, c.bias) || count != c.count {
			t.Error(len(c.a), len(c.b), bias, count)
		}
	}
}

func biasBySteps(a, b []impl.Read) (float64, int64) {
	sum, count := float64(0), int64(0)
	for _, x := range a {
		for _, y := range b {
			if y.Station == x.Station && y.T == x.T {
				if !absent(x.X) && !absent(y.X) {
					sum += x.X - y.X
					count++
				}
				break
			}
		}
	}
	return sum / float64(count), count
}

func TestBiasBySteps(t *testing.T) {
	d := dice(605)
	for range 4000 {
		places := rolledPlaces(&d)
		a, b := rolledReads(&d, places, d.below(20)), rolledReads(&d, places, d.below(20))
		bias, count := impl.Bias(a, b)
		if want, right := biasBySteps(a, b); !sameFloat(bias, want) || count != right {
			t.Fatalf("Bias(%v, %v) = %v, %d; by steps %v, %d", a, b, bias, count, want, right)
		}
	}
}
