package tests

import (
	"math"
	"math/big"
	"slices"
	"testing"

	"loop.example/g00051/impl"
)

// units has each unit's kind, offset and factor in its number's place.
var units = [15]struct {
	kind           string
	offset, factor float64
}{
	1: {"temperature", 0, 1}, 2: {"temperature", 273.15, 1}, 3: {"temperature", 459.67, 0.5555555555555556},
	4: {"speed", 0, 1}, 5: {"speed", 0, 0.5144444444444445}, 6: {"speed", 0, 0.2777777777777778},
	7: {"pressure", 0, 1}, 8: {"pressure", 0, 33.8639}, 9: {"pressure", 0, 1.333224},
	10: {"length", 0, 1}, 11: {"length", 0, 0.3048}, 12: {"length", 0, 1852},
	13: {"rain", 0, 1}, 14: {"rain", 0, 25.4},
}

var turnSines = [10]float64{0, 0.17364817766693033, 0.3420201433256687, 0.5, 0.6427876096865393, 0.766044443118978, 0.8660254037844386, 0.9396926207859083, 0.984807753012208, 1}

func samePair(a, b impl.Pair) bool {
	return sameFloat(a.Re, b.Re) && sameFloat(a.Im, b.Im)
}

func isNone(p impl.Pair) bool {
	return p.Re != p.Re && p.Im != p.Im
}

func TestUnitNumbers(t *testing.T) {
	numbers := []int64{impl.UKelvin, impl.UCelsius, impl.UFahrenheit, impl.UMetres, impl.UKnots, impl.UKmh, impl.UHecto, impl.UInches, impl.UMercury, impl.UMetre, impl.UFoot, impl.UMile, impl.UMillimetre, impl.URainInch}
	for i, n := range numbers {
		if n != int64(i+1) {
			t.Errorf("unit %d has the number %d", i+1, n)
		}
	}
}

func TestConvertKnownValues(t *testing.T) {
	for _, c := range []struct {
		x        float64
		from, to int64
		want     float64
	}{
		{32, 3, 2, 5.684341886080802e-14}, {212, 3, 2, 100.00000000000006}, {20, 2, 3, 67.99999999999994},
		{100, 1, 2, -173.14999999999998}, {-40, 2, 3, -40.00000000000006}, {0, 3, 1, 255.37222222222223},
		{10, 5, 4, 5.144444444444445}, {10, 4, 5, 19.438444924406046}, {100, 6, 4, 27.77777777777778}, {36, 6, 5, 19.438444924406046},
		{29.92, 8, 7, 1013.2078880000001}, {760, 9, 7, 1013.25024}, {1013.25, 7, 8, 29.92124356615747}, {30, 8, 9, 762.0002340191896},
		{100, 11, 10, 30.48}, {1, 12, 11, 6076.115485564304}, {1000, 10, 12, 0.5399568034557235},
		{2, 14, 13, 50.8}, {12.7, 13, 14, 0.5},
	} {
		if got, ok := impl.Convert(c.x, c.from, c.to); got != c.want || !ok {
			t.Errorf("Convert(%v, %d, %d) = %v, %v", c.x, c.from, c.to, got, ok)
		}
	}
}

func converted(x float64, from, to int) float64 {
	if from == to {
		return x
	}
	sum := float64(x + units[from].offset)
	product := float64(sum * units[from].factor)
	quotient := float64(product / units[to].factor)
	return float64(quotient - units[to].offset)
}

func TestConvertEachUnit(t *testing.T) {
	numbers := append(oddNumbers(), -459.67, -273.15, 0.1, 273.15, 1013.25, -40)
	for from := range 15 {
		for to := range 15 {
			like := from > 0 && to > 0 && units[from].kind == units[to].kind
			for _, x := range numbers {
				got, ok := impl.Convert(x, int64(from), int64(to))
				switch {
				case ok != like:
					t.Fatalf("Convert(%v, %d, %d): %v", x, from, to, ok)
				case !like && got == got:
					t.Fatalf("Convert(%v, %d, %d) = %v", x, from, to, got)
				case like && !sameFloat(got, converted(x, from, to)):
					t.Fatalf("Convert(%v, %d, %d) = %v", x, from, to, got)
				}
			}
		}
	}
}

func TestConvertNoUnit(t *testing.T) {
	for _, u := range []int64{0, 15, -1, -15, 16, math.MaxInt64, math.MinInt64, 1<<32 + 1} {
		for _, v := range []int64{u, 0, 15, 1, 2, 4, 14} {
			for _, x := range []float64{1, none, high} {
				if got, ok := impl.Convert(x, u, v); got == got || ok {
					t.Errorf("Convert(%v, %d, %d) = %v, %v", x, u, v, got, ok)
				}
				if got, ok := impl.Convert(x, v, u); got == got || ok {
					t.Errorf("Convert(%v, %d, %d) = %v, %v", x, v, u, got, ok)
				}
			}
		}
	}
}

func TestVapour(t *testing.T) {
	for at, want := range map[float64]float64{
		-50: 0.06337437615624886, -49.9: 0.06414335666256843, -20: 1.2538628006185606, -0.1: 6.063577405608574, 0: 6.107799961, 10: 12.27073698721729,
		20: 23.371155618890562, 25.5: 32.62565442655615, 37.2: 63.44774935990254, 50: 123.40777728615625,
	} {
		if got := impl.Vapour(at); got != want {
			t.Errorf("Vapour(%v) = %v", at, got)
		}
	}
	for _, at := range []float64{none, payload, high, low, math.Nextafter(-50, low), math.Nextafter(50, high), -50.1, 50.1, most, -most} {
		if got := impl.Vapour(at); got == got {
			t.Errorf("Vapour(%v) = %v", at, got)
		}
	}
}

func vapourBySteps(t float64) float64 {
	a := float64(t*0.00000000006136820929) + 0.00000002034080948
	b := float64(t*a) + 0.000003031240396
	c := float64(t*b) + 0.0002650648471
	d := float64(t*c) + 0.01428945805
	e := float64(t*d) + 0.4436518521
	return float64(t*e) + 6.107799961
}

func someTemperatures() []float64 {
	list := []float64{-50, math.Nextafter(-50, 0), 50, math.Nextafter(50, 0), 0, below0, least, -least, 0.1, -0.1}
	d := dice(31)
	for range 400 {
		list = append(list, float64(d.below(100001)-50000)/1000)
	}
	return list
}

func TestVapourStepByStep(t *testing.T) {
	for _, at := range someTemperatures() {
		if got := impl.Vapour(at); !sameFloat(got, vapourBySteps(at)) {
			t.Errorf("Vapour(%v) = %v", at, got)
		}
	}
}

func TestHumidity(t *testing.T) {
	for _, c := range []struct{ t, dew, want float64 }{
		{20, 10, 52.50376655444044}, {20, 9.3, 50.09163609277266}, {50, -50, 0.05135363228307502}, {-10, -10.5, 96.11844449214449},
		{25, 24.9, 99.4054195376366}, {0, below0, 100}, {below0, 0, 100}, {-50, -50, 100}, {50, 50, 100}, {20, 20, 100},
		{math.Nextafter(20, 21), 20, vapourBySteps(20) * 100 / vapourBySteps(math.Nextafter(20, 21))},
	} {
		if got := impl.Humidity(c.t, c.dew); got != c.want {
			t.Errorf("Humidity(%v, %v) = %v", c.t, c.dew, got)
		}
	}
	for _, c := range [][2]float64{
		{none, 5}, {5, none}, {none, payload}, {10, 11}, {20, math.Nextafter(20, 21)}, {51, 20}, {20, -51}, {-51, -52}, {52, 51},
		{high, 5}, {5, low}, {low, low}, {high, high}, {50.5, -50}, {50, -50.5},
	} {
		if got := impl.Humidity(c[0], c[1]); got == got {
			t.Errorf("Humidity(%v, %v) = %v", c[0], c[1], got)
		}
	}
}

func TestDewOf(t *testing.T) {
	for _, c := range []struct{ t, humidity, want float64 }{
		{20, 50, 9.272825775875118}, {20, 100, 20}, {0, 10, -28.029389451452897}, {-50, 40, -50}, {-50, 100, -50}, {50, 100, 50}, {50, 0.01, -50},
		{50, 1e-300, -50}, {30, least, -50}, {15.5, 73, 10.686753228165212}, {-12.5, 88.5, -14.003136802451717},
	} {
		if got := impl.DewOf(c.t, c.humidity); got != c.want {
			t.Errorf("DewOf(%v, %v) = %v", c.t, c.humidity, got)
		}
	}
	for _, c := range [][2]float64{
		{20, 0}, {20, below0}, {20, -least}, {20, -5}, {20, math.Nextafter(100, high)}, {20, 101}, {20, none}, {20, high}, {20, low},
		{none, 50}, {high, 50}, {low, 50}, {math.Nextafter(50, high), 50}, {math.Nextafter(-50, low), 50}, {none, none},
	} {
		if got := impl.DewOf(c[0], c[1]); got == got {
			t.Errorf("DewOf(%v, %v) = %v", c[0], c[1], got)
		}
	}
}

func dewBySteps(t, humidity float64) float64 {
	from, to := float64(-50), t
	for range 60 {
		mid := float64(from+to) / 2
		if float64(vapourBySteps(mid)*100) < float64(humidity*vapourBySteps(t)) {
			from = mid
		} else {
			to = mid
		}
	}
	return to
}

// Promise 3: the dew point has at least the vapour that is asked.
func TestDewHasTheVapour(t *testing.T) {
	d := dice(32)
	for _, at := range someTemperatures() {
		for _, humidity := range []float64{least, 0.001, 99.99999999999999, 100, float64(d.below(100)) + 0.5, float64(d.below(10000)+1) / 100} {
			dew := impl.DewOf(at, humidity)
			if !sameFloat(dew, dewBySteps(at, humidity)) {
				t.Fatalf("DewOf(%v, %v) = %v", at, humidity, dew)
			}
			if dew > at || dew < -50 || impl.Vapour(dew)*100 < humidity*impl.Vapour(at) {
				t.Fatalf("DewOf(%v, %v) = %v: too little vapour", at, humidity, dew)
			}
			if back := impl.Humidity(at, dew); back < humidity-1e-9 {
				t.Fatalf("DewOf(%v, %v) = %v: humidity %v", at, humidity, dew, back)
			}
		}
	}
}

func somePairs() []impl.Pair {
	numbers := []float64{none, high, low, 0, below0, 1, -1, 0.1, 3, -2.5, least, most, -most, 1e200}
	var list []impl.Pair
	for _, re := range numbers {
		for _, im := range numbers {
			list = append(list, impl.Pair{Re: re, Im: im})
		}
	}
	d := dice(33)
	for range 60 {
		list = append(list, impl.Pair{Re: float64(d.below(2000001)-1000000) / 7, Im: float64(d.below(2000001)-1000000) / 3})
	}
	return list
}

func productBySteps(a, b impl.Pair) impl.Pair {
	rr, ii := float64(a.Re*b.Re), float64(a.Im*b.Im)
	ri, ir := float64(a.Re*b.Im), float64(a.Im*b.Re)
	return impl.Pair{Re: rr - ii, Im: ri + ir}
}

// Promise 3: products of pairs do not ask which stands first.
func TestPairsTwoByTwo(t *testing.T) {
	list := somePairs()
	for _, a := range list {
		for _, b := range list {
			p := impl.MulPair(a, b)
			if !samePair(p, impl.MulPair(b, a)) {
				t.Fatalf("%v times %v asks which stands first", a, b)
			}
			if !samePair(p, productBySteps(a, b)) {
				t.Fatalf("%v times %v = %v", a, b, p)
			}
			if s := impl.AddPair(a, b); !samePair(s, impl.Pair{Re: a.Re + b.Re, Im: a.Im + b.Im}) {
				t.Fatalf("%v and %v = %v", a, b, s)
			}
		}
		if c := impl.ConjPair(a); !samePair(c, impl.Pair{Re: a.Re, Im: 0 - a.Im}) {
			t.Fatalf("ConjPair(%v) = %v", a, c)
		}
	}
}

func TestPairsByHand(t *testing.T) {
	a, b := impl.Pair{Re: 3, Im: -2}, impl.Pair{Re: 5, Im: 7}
	if p := impl.MulPair(a, b); p != (impl.Pair{Re: 29, Im: 11}) {
		t.Error(p)
	}
	if p := impl.AddPair(a, b); p != (impl.Pair{Re: 8, Im: 5}) {
		t.Error(p)
	}
	if p := impl.ConjPair(impl.Pair{Re: below0, Im: 0}); !samePair(p, impl.Pair{Re: below0, Im: 0}) {
		t.Error("0 less 0 is 0", p)
	}
	// The squares differ by less than one of them is rounded by.
	near := impl.Pair{Re: 1 + 0x1p-30, Im: 1 + 0x1p-30}
	if p := impl.MulPair(near, near); p.Re != 0 {
		t.Error("a product was not rounded by itself", p)
	}
}

// sineAt tells the sine of k times ten degrees for 0 .. 35, quarter by quarter.
func sineAt(k int) float64 {
	switch k / 9 {
	case 0:
		return turnSines[k]
	case 1:
		return turnSines[18-k]
	case 2:
		return 0 - turnSines[k-18]
	}
	return 0 - turnSines[36-k]
}

func TestTurnTable(t *testing.T) {
	for k := range 36 {
		p := impl.Turn(int64(k))
		if !samePair(p, impl.Pair{Re: sineAt((k + 9) % 36), Im: sineAt(k)}) {
			t.Errorf("Turn(%d) = %v", k, p)
		}
		sin, cos := math.Sincos(float64(k) * math.Pi / 18)
		if math.Abs(p.Re-cos) > 1e-15 || math.Abs(p.Im-sin) > 1e-15 {
			t.Errorf("Turn(%d) = %v, far from %v, %v", k, p, cos, sin)
		}
	}
	for k, want := range map[int64]impl.Pair{0: {Re: 1, Im: 0}, 9: {Re: 0, Im: 1}, 18: {Re: -1, Im: 0}, 27: {Re: 0, Im: -1}} {
		if p := impl.Turn(k); !samePair(p, want) {
			t.Errorf("Turn(%d) = %v", k, p)
		}
	}
}

// Promise 3: turns go round.
func TestTurnsGoRound(t *testing.T) {
	numbers := []int64{math.MinInt64, math.MinInt64 + 1, math.MinInt64 + 35, math.MaxInt64, math.MaxInt64 - 8, math.MaxInt64 - 9, math.MaxInt64 - 10, -1 << 40, 1 << 40}
	for k := int64(-120); k <= 120; k++ {
		numbers = append(numbers, k)
	}
	for _, k := range numbers {
		rest := new(big.Int).Mod(big.NewInt(k), big.NewInt(36)).Int64()
		if p := impl.Turn(k); !samePair(p, impl.Turn(rest)) {
			t.Errorf("Turn(%d) = %v, Turn(%d) = %v", k, p, rest, impl.Turn(rest))
		}
	}
	for k := int64(-50); k < 50; k++ {
		a, b := impl.Turn(k), impl.Turn(k+18)
		if s := impl.AddPair(a, b); s != (impl.Pair{}) {
			t.Errorf("Turn(%d) and half a turn more: %v", k, s)
		}
		if p := impl.MulPair(a, impl.ConjPair(a)); math.Abs(p.Re-1) > 1e-15 || p.Im != 0 {
			t.Errorf("Turn(%d) has another length: %v", k, p)
		}
	}
}

func TestWindPair(t *testing.T) {
	for dir := int64(1); dir <= 36; dir++ {
		for _, speed := range []float64{least, 0.1, 1, 7.5, 99, most} {
			c, s := sineAt(int(dir+9)%36), sineAt(int(dir)%36)
			want := impl.Pair{Re: 0 - float64(speed*s), Im: 0 - float64(speed*c)}
			if p := impl.WindPair(impl.Wind{Dir: dir, Speed: speed}); !samePair(p, want) {
				t.Errorf("WindPair(%d, %v) = %v", dir, speed, p)
			}
		}
	}
	for _, c := range []struct {
		dir    int64
		re, im float64
	}{{9, -4, 0}, {18, 0, 4}, {27, 4, 0}, {36, 0, -4}} {
		if p := impl.WindPair(impl.Wind{Dir: c.dir, Speed: 4}); !samePair(p, impl.Pair{Re: c.re, Im: c.im}) {
			t.Errorf("from %d: %v", c.dir, p)
		}
	}
}

func TestWindsThatAreRight(t *testing.T) {
	for _, speed := range []float64{0, below0} {
		if p := impl.WindPair(impl.Wind{Dir: 0, Speed: speed}); !samePair(p, impl.Pair{}) {
			t.Errorf("calm: %v", p)
		}
	}
	for _, w := range wrongWinds() {
		if p := impl.WindPair(w); !isNone(p) {
			t.Errorf("WindPair(%v) = %v", w, p)
		}
	}
}

func wrongWinds() []impl.Wind {
	return []impl.Wind{
		{Dir: 0, Speed: 4}, {Dir: 0, Speed: least}, {Dir: 9, Speed: 0}, {Dir: 36, Speed: below0}, {Dir: 1, Speed: 0},
		{Dir: -1, Speed: 4}, {Dir: 37, Speed: 4}, {Dir: -1, Speed: 0}, {Dir: 37, Speed: 0}, {Dir: 72, Speed: 3},
		{Dir: math.MinInt64, Speed: 4}, {Dir: math.MaxInt64, Speed: 4},
		{Dir: 9, Speed: -4}, {Dir: 9, Speed: -least}, {Dir: 0, Speed: -1}, {Dir: 9, Speed: none}, {Dir: 0, Speed: none}, {Dir: 9, Speed: high}, {Dir: 9, Speed: low},
	}
}

// Promise 3: winds that blow against one another are none.
func TestWindsAgainstOneAnother(t *testing.T) {
	for dir := int64(1); dir <= 18; dir++ {
		for _, speed := range []float64{least, 0.1, 1.0 / 3, 5, 1e300} {
			list := []impl.Wind{{Dir: dir, Speed: speed}, {Dir: dir + 18, Speed: speed}}
			if p := impl.MeanWind(list); p != (impl.Pair{}) {
				t.Errorf("%v: %v", list, p)
			}
			if p := impl.AddPair(impl.WindPair(list[0]), impl.WindPair(list[1])); p != (impl.Pair{}) {
				t.Errorf("%v: %v", list, p)
			}
		}
	}
}

// meanBySteps holds the MeanWind of a list against the pairs of each of its winds.
func meanBySteps(list []impl.Wind) impl.Pair {
	var re, im, count float64
	for _, w := range list {
		if p := impl.WindPair(w); !isNone(p) {
			re, im, count = re+p.Re, im+p.Im, count+1
		}
	}
	return impl.Pair{Re: re / count, Im: im / count}
}

func someWinds(count int, seed dice) []impl.Wind {
	list := make([]impl.Wind, count)
	for i := range list {
		list[i] = impl.Wind{Dir: seed.below(40) - 1, Speed: float64(seed.below(500)) / 10}
		if i%9 == 0 {
			list[i] = impl.Wind{}
		}
	}
	return list
}

func TestMeanWind(t *testing.T) {
	for count := 1; count <= impl.MaxList; count = count*3 + 1 {
		list := someWinds(count, dice(count))
		if p := impl.MeanWind(list); !samePair(p, meanBySteps(list)) {
			t.Errorf("%d winds: %v", count, p)
		}
	}
	// From the left: the other way round nothing would be left of the 1.
	list := []impl.Wind{{Dir: 9, Speed: 1e16}, {Dir: 27, Speed: 1e16}, {Dir: 27, Speed: 1}}
	if p := impl.MeanWind(list); p.Re != 1.0/3 {
		t.Error("from the left", p)
	}
	slices.Reverse(list)
	if p := impl.MeanWind(list); p.Re != 0 {
		t.Error("from the left", p)
	}
	if p := impl.MeanWind([]impl.Wind{{}, {Dir: 18, Speed: 3}, {Dir: 40, Speed: 9}}); !samePair(p, impl.Pair{Re: 0, Im: 1.5}) {
		t.Error("calm counts, a wrong one does not", p)
	}
}

// The mean of one wind is that wind, whatever way its turn was found.
func TestMeanOfOneWind(t *testing.T) {
	for dir := int64(0); dir <= 36; dir++ {
		speed := float64(dir) / 3
		w := impl.Wind{Dir: dir, Speed: speed}
		turn := impl.Turn(dir)
		want := impl.Pair{Re: 0 - float64(speed*turn.Im), Im: 0 - float64(speed*turn.Re)}
		if p := impl.WindPair(w); !samePair(p, want) {
			t.Errorf("WindPair(%v) = %v, not %v", w, p, want)
		}
		if p := impl.MeanWind([]impl.Wind{w}); p != want {
			t.Errorf("MeanWind of %v = %v, not %v", w, p, want)
		}
	}
}

func TestMeanWindOfNone(t *testing.T) {
	if p := impl.MeanWind(nil); !isNone(p) {
		t.Error(p)
	}
	if p := impl.MeanWind([]impl.Wind{}); !isNone(p) {
		t.Error(p)
	}
	if p := impl.MeanWind(wrongWinds()); !isNone(p) {
		t.Error("none is right", p)
	}
	full := someWinds(impl.MaxList+1, 5)
	if p := impl.MeanWind(full[:impl.MaxList]); !samePair(p, meanBySteps(full[:impl.MaxList])) || isNone(p) {
		t.Error("MaxList", p)
	}
	if p := impl.MeanWind(full); !isNone(p) {
		t.Error("one more than MaxList", p)
	}
}
