package tests

import (
	"math"
	"math/big"
	"slices"
	"testing"

	"loop.example/g00051/impl"
)

const prime = 65537

var (
	residueLengths = []int{1, 2, 4, 8, 16, 32, 64}
	waveLengths    = []int{1, 2, 3, 4, 6, 9, 12, 18, 36}
)

// power is 3 to the (65536 / n), to the exponent, modulo 65537.
func power(n, exponent int) int64 {
	turn := new(big.Int).Exp(big.NewInt(3), big.NewInt(int64(65536/n)), big.NewInt(prime))
	return new(big.Int).Exp(turn, big.NewInt(int64(exponent)), big.NewInt(prime)).Int64()
}

func spectrumBySteps(row []int64) []int64 {
	sums := make([]int64, len(row))
	for k := range row {
		for i, n := range row {
			sums[k] = (sums[k] + n*power(len(row), i*k)) % prime
		}
	}
	return sums
}

func mixedBySteps(a, b []int64) []int64 {
	sums := make([]int64, len(a))
	for i, n := range a {
		for j, m := range b {
			k := (i + j) % len(a)
			sums[k] = (sums[k] + n*m) % prime
		}
	}
	return sums
}

func rolledResidues(d *dice, count int) []int64 {
	var row []int64
	for range count {
		switch d.below(4) {
		case 0:
			row = append(row, []int64{0, 1, 2, 65534, 65535, 65536}[d.below(6)])
		default:
			row = append(row, d.below(prime))
		}
	}
	return row
}

// someResidues has rows of each length, with great and small numbers alone and mixed.
func someResidues() [][]int64 {
	d := dice(1601)
	var rows [][]int64
	for _, n := range residueLengths {
		for _, all := range []int64{0, 1, 65535, 65536} {
			rows = append(rows, times(n, all))
		}
		for i := range n {
			row := times(n, int64(0))
			row[i] = 1 + int64(i)*1000
			rows = append(rows, row)
		}
		for range 12 {
			rows = append(rows, rolledResidues(&d, n))
		}
	}
	return rows
}

func TestSpectrumByHand(t *testing.T) {
	for _, c := range []struct{ row, want []int64 }{
		{[]int64{0}, []int64{0}}, {[]int64{65536}, []int64{65536}}, {[]int64{12345}, []int64{12345}},
		{[]int64{3, 5}, []int64{8, 65535}}, {[]int64{5, 3}, []int64{8, 2}}, {[]int64{65536, 65536}, []int64{65535, 0}}, {[]int64{65536, 0}, []int64{65536, 65536}}, {[]int64{0, 65536}, []int64{65536, 1}},
		// The turn of 4 is 65281, that is -256; its powers are 1, -256, -1 and 256.
		{[]int64{1, 0, 0, 0}, []int64{1, 1, 1, 1}}, {[]int64{0, 1, 0, 0}, []int64{1, 65281, 65536, 256}}, {[]int64{0, 0, 1, 0}, []int64{1, 65536, 1, 65536}}, {[]int64{0, 0, 0, 1}, []int64{1, 256, 65536, 65281}},
		{[]int64{1, 2, 3, 4}, []int64{10, 510, 65535, 65023}}, {[]int64{1, 1, 1, 1}, []int64{4, 0, 0, 0}},
	} {
		if got, ok := impl.Spectrum(c.row); !slices.Equal(got, c.want) || !ok {
			t.Errorf("Spectrum(%v) = %v, %v", c.row, got, ok)
		}
		if got, ok := impl.Unspectrum(c.want); !slices.Equal(got, c.row) || !ok {
			t.Errorf("Unspectrum(%v) = %v, %v", c.want, got, ok)
		}
	}
}

func TestSpectrumBySteps(t *testing.T) {
	for _, row := range someResidues() {
		if got, ok := impl.Spectrum(row); !slices.Equal(got, spectrumBySteps(row)) || !ok {
			t.Fatalf("Spectrum(%v) = %v, %v", row, got, ok)
		}
		// What has the row as its Spectrum is one row only.
		if got, ok := impl.Unspectrum(row); !ok || !slices.Equal(spectrumBySteps(got), row) || slices.Min(got) < 0 || slices.Max(got) >= prime {
			t.Fatalf("Unspectrum(%v) = %v, %v", row, got, ok)
		}
	}
}

// Promise 16: spectra over residues come back exactly.
func comesBack(t *testing.T, row []int64) {
	t.Helper()
	there, ok := impl.Spectrum(row)
	again, alsoOk := impl.Unspectrum(there)
	if !ok || !alsoOk || !slices.Equal(again, row) {
		t.Fatalf("Unspectrum(Spectrum(%v)) = %v", row, again)
	}
	there, ok = impl.Unspectrum(row)
	again, alsoOk = impl.Spectrum(there)
	if !ok || !alsoOk || !slices.Equal(again, row) {
		t.Fatalf("Spectrum(Unspectrum(%v)) = %v", row, again)
	}
}

func TestSpectraComeBack(t *testing.T) {
	for n := range int64(prime) {
		comesBack(t, []int64{n})
		comesBack(t, []int64{n, (n*n + 7) % prime})
	}
	d := dice(1602)
	for _, n := range residueLengths {
		for range 100 {
			comesBack(t, rolledResidues(&d, n))
		}
	}
	for _, row := range someResidues() {
		comesBack(t, row)
	}
}

// wrongRows are rows that are none of residues.
func wrongRows() [][]int64 {
	rows := [][]int64{nil, {}}
	for n := range 300 {
		if !slices.Contains(residueLengths, n) {
			rows = append(rows, times(n, int64(1)))
		}
	}
	for _, n := range residueLengths {
		for i := range n {
			for _, wrong := range []int64{-1, 65537, 65538, -65536, math.MaxInt64, math.MinInt64, 1 << 32} {
				row := times(n, int64(1))
				row[i] = wrong
				rows = append(rows, row)
			}
		}
	}
	return append(rows, times(1024, int64(1)), times(65536, int64(1)))
}

func TestRowsThatAreNoResidues(t *testing.T) {
	for _, row := range wrongRows() {
		if got, ok := impl.Spectrum(row); len(got) != 0 || ok {
			t.Fatalf("Spectrum(%v) = %v, %v", row, got, ok)
		}
		if got, ok := impl.Unspectrum(row); len(got) != 0 || ok {
			t.Fatalf("Unspectrum(%v) = %v, %v", row, got, ok)
		}
		right := times(len(row), int64(1))
		for _, pair := range [][2][]int64{{row, right}, {right, row}, {row, row}} {
			if got, ok := impl.Mixed(pair[0], pair[1]); len(got) != 0 || ok {
				t.Fatalf("Mixed(%v, %v) = %v, %v", pair[0], pair[1], got, ok)
			}
		}
	}
}

func TestRowsOfDifferentLengths(t *testing.T) {
	for _, n := range append([]int{0, 3, 63, 65, 128}, residueLengths...) {
		for _, m := range append([]int{0, 3, 63, 65, 128}, residueLengths...) {
			a, b := times(n, int64(1)), times(m, int64(1))
			want := n == m && slices.Contains(residueLengths, n)
			if got, ok := impl.Mixed(a, b); ok != want || ok && len(got) != n || !ok && len(got) != 0 {
				t.Errorf("rows of %d and %d: %v, %v", n, m, got, ok)
			}
		}
	}
}

func TestMixedByHand(t *testing.T) {
	for _, c := range []struct{ a, b, want []int64 }{
		{[]int64{1, 2, 0, 0}, []int64{5, 0, 0, 7}, []int64{19, 10, 0, 7}},
		{[]int64{0, 1, 0, 0}, []int64{1, 2, 3, 4}, []int64{4, 1, 2, 3}},
		{[]int64{1, 0, 0, 0}, []int64{1, 2, 3, 4}, []int64{1, 2, 3, 4}},
		{[]int64{1, 1, 1, 1}, []int64{1, 2, 3, 4}, []int64{10, 10, 10, 10}},
		{[]int64{3}, []int64{5}, []int64{15}}, {[]int64{65536}, []int64{65536}, []int64{1}}, {[]int64{256}, []int64{256}, []int64{65536}}, {[]int64{0}, []int64{65536}, []int64{0}},
		{[]int64{65536, 65536}, []int64{65536, 65536}, []int64{2, 2}}, {[]int64{65536, 1}, []int64{65536, 1}, []int64{2, 65535}},
	} {
		if got, ok := impl.Mixed(c.a, c.b); !slices.Equal(got, c.want) || !ok {
			t.Errorf("Mixed(%v, %v) = %v, %v", c.a, c.b, got, ok)
		}
	}
}

// Promise 16: spectra turn mixing into products.
func TestMixingBecomesProducts(t *testing.T) {
	rows := someResidues()
	d := dice(1603)
	for _, a := range rows {
		for range 4 {
			b := rolledResidues(&d, len(a))
			mixed, ok := impl.Mixed(a, b)
			other, alsoOk := impl.Mixed(b, a)
			if !ok || !alsoOk || !slices.Equal(mixed, mixedBySteps(a, b)) || !slices.Equal(mixed, other) {
				t.Fatalf("Mixed(%v, %v) = %v, %v", a, b, mixed, ok)
			}
			ofMixed, _ := impl.Spectrum(mixed)
			ofA, _ := impl.Spectrum(a)
			ofB, _ := impl.Spectrum(b)
			for k := range a {
				if ofMixed[k] != ofA[k]*ofB[k]%prime {
					t.Fatalf("the spectrum of Mixed(%v, %v) is no product at %d", a, b, k)
				}
			}
		}
	}
}

func TestGreatestMixtures(t *testing.T) {
	for _, n := range residueLengths {
		row := times(n, int64(65536))
		if got, ok := impl.Mixed(row, row); !ok || !slices.Equal(got, times(n, int64(n))) {
			t.Error(n, got, ok)
		}
		want := times(n, int64(0))
		want[0] = prime - int64(n)
		if got, ok := impl.Spectrum(row); !ok || !slices.Equal(got, want) {
			t.Error(n, got, ok)
		}
	}
}

func pairs(list ...float64) []impl.Pair {
	var row []impl.Pair
	for len(list) > 1 {
		row, list = append(row, impl.Pair{Re: list[0], Im: list[1]}), list[2:]
	}
	return row
}

func samePairs(a, b []impl.Pair) bool {
	return slices.EqualFunc(a, b, samePair)
}

// wavesBySteps has the turns from the ten numbers of chapter 3; by is -1 for Waves and 1 for Unwaves.
func wavesBySteps(row []impl.Pair, by int) []impl.Pair {
	n := len(row)
	var list []impl.Pair
	for k := range n {
		re, im := 0.0, 0.0
		for i, p := range row {
			turn := (36*36 + by*(36/n)*i*k) % 36
			q := productBySteps(p, impl.Pair{Re: sineAt((turn + 9) % 36), Im: sineAt(turn)})
			re, im = float64(re+q.Re), float64(im+q.Im)
		}
		if by > 0 {
			re, im = re/float64(n), im/float64(n)
		}
		list = append(list, impl.Pair{Re: re, Im: im})
	}
	return list
}

// rolledPairs is a row of numbers of which some are missing, infinite, -0 or as great as may be, so often as is told.
func rolledPairs(d *dice, count int, oddOnes int64) []impl.Pair {
	odd := []float64{none, high, low, below0, 0, most, -most, least, -least, 1e200, 0.1}
	part := func() float64 {
		if d.below(100) < oddOnes {
			return odd[d.below(int64(len(odd)))]
		}
		return float64(d.below(2000001)-1000000) / []float64{1, 7, 1000}[d.below(3)]
	}
	var row []impl.Pair
	for range count {
		row = append(row, impl.Pair{Re: part(), Im: part()})
	}
	return row
}

func rowsOfPairs() [][]impl.Pair {
	d := dice(1604)
	var rows [][]impl.Pair
	for _, n := range waveLengths {
		for _, odd := range []int64{0, 0, 0, 2, 5, 20, 100} {
			for range 12 {
				rows = append(rows, rolledPairs(&d, n, odd))
			}
		}
		for _, x := range []float64{0, below0, 1, most, -most, least, high, low, none} {
			rows = append(rows, times(n, impl.Pair{Re: x}), times(n, impl.Pair{Im: x}), times(n, impl.Pair{Re: x, Im: x}))
			for i := range n {
				row := times(n, impl.Pair{})
				row[i] = impl.Pair{Re: x, Im: 3}
				rows = append(rows, row)
			}
		}
	}
	return rows
}

func TestWavesBySteps(t *testing.T) {
	for _, row := range rowsOfPairs() {
		if got := impl.Waves(row); !samePairs(got, wavesBySteps(row, -1)) {
			t.Fatalf("Waves(%v) = %v", row, got)
		}
		if got := impl.Unwaves(row); !samePairs(got, wavesBySteps(row, 1)) {
			t.Fatalf("Unwaves(%v) = %v", row, got)
		}
	}
}

func TestWavesByHand(t *testing.T) {
	for _, c := range []struct{ row, want []impl.Pair }{
		{pairs(3, -4), pairs(3, -4)}, {pairs(below0, below0), pairs(0, 0)},
		{pairs(1, 2, 10, 20), pairs(11, 22, -9, -18)},
		{pairs(1, 0, 2, 0, 3, 0, 4, 0), pairs(10, 0, -2, 2, -2, 0, -2, -2)},
		{pairs(0, 1, 0, 2, 0, 3, 0, 4), pairs(0, 10, -2, -2, 0, -2, 2, -2)},
		{pairs(0, 0, 1, 0, 0, 0, 0, 0), pairs(1, 0, 0, -1, -1, 0, 0, 1)},
		{pairs(0, 0, 0, 0, 0, 0, 5, 7), pairs(5, 7, -7, 5, -5, -7, 7, -5)},
		// A third of a turn back, and another.
		{pairs(0, 0, 2, 0, 0, 0), pairs(2, 0, -1, -2*0.8660254037844386, -1, 2*0.8660254037844386)},
		{pairs(0, 0, 0, 0, 2, 0), pairs(2, 0, -1, 2*0.8660254037844386, -1, -2*0.8660254037844386)},
		{pairs(0, 0, 1, 0, 0, 0, 0, 0, 0, 0, 0, 0), pairs(1, 0, 0.5, -0.8660254037844386, -0.5, -0.8660254037844386, -1, 0, -0.5, 0.8660254037844386, 0.5, 0.8660254037844386)},
	} {
		if got := impl.Waves(c.row); !samePairs(got, c.want) {
			t.Errorf("Waves(%v) = %v", c.row, got)
		}
	}
	for _, c := range []struct{ row, want []impl.Pair }{
		{pairs(3, -4), pairs(3, -4)}, {pairs(11, 22, -9, -18), pairs(1, 2, 10, 20)}, {pairs(1, 1, 0, 0), pairs(0.5, 0.5, 0.5, 0.5)},
		{pairs(10, 0, -2, 2, -2, 0, -2, -2), pairs(1, 0, 2, 0, 3, 0, 4, 0)},
		{pairs(0, 0, 4, 0, 0, 0, 0, 0), pairs(1, 0, 0, 1, -1, 0, 0, -1)},
		// The sum is divided, not its terms: what was infinite stays so, and the least half is none.
		{pairs(most, 0, most, 0), pairs(high, 0, 0, 0)}, {pairs(least, 0, 0, 0), pairs(0, 0, 0, 0)}, {pairs(-least, 0, 0, 0), pairs(below0, 0, below0, 0)}, {pairs(least, 0, least, 0), pairs(least, 0, 0, 0)},
	} {
		if got := impl.Unwaves(c.row); !samePairs(got, c.want) {
			t.Errorf("Unwaves(%v) = %v", c.row, got)
		}
	}
}

// The terms are added from the first on: 1 and 1 beside a great number get lost behind it, not ahead of it.
func TestWavesAddInOrder(t *testing.T) {
	behind, ahead := pairs(1e16, 0, 1, 0, 1, 0), pairs(1, 0, 1, 0, 1e16, 0)
	if got := impl.Waves(behind)[0]; got.Re != 1e16 {
		t.Error(got)
	}
	if got := impl.Waves(ahead)[0]; got.Re != 1e16+2 {
		t.Error(got)
	}
	if got := impl.Unwaves(ahead)[0]; got.Re != (1e16+2)/3 {
		t.Error(got)
	}
}

// rolledWholes is a row of whole numbers of at most so many bits; none is -0, which comes back as 0.
func rolledWholes(d *dice, count int, bits int64) []impl.Pair {
	part := func() float64 { return float64(d.below(1<<bits) * (1 - 2*d.below(2))) }
	var row []impl.Pair
	for range count {
		row = append(row, impl.Pair{Re: part(), Im: part()})
	}
	return row
}

// Promise 16: waves of 1, 2 and 4 whole numbers come back exactly, and turn mixing into products.
func TestWavesOfWholeNumbers(t *testing.T) {
	d := dice(1605)
	for range 4000 {
		n := []int{1, 2, 4}[d.below(3)]
		row := rolledWholes(&d, n, 1+d.below(49))
		there := impl.Waves(row)
		if again := impl.Unwaves(there); !samePairs(again, row) {
			t.Fatalf("Unwaves(Waves(%v)) = %v", row, again)
		}
		if impl.Energy(row) < 1<<50 && impl.Energy(there) != float64(n)*impl.Energy(row) {
			t.Fatalf("Waves(%v): the energy is %v", row, impl.Energy(there))
		}
		a, b := rolledWholes(&d, n, 20), rolledWholes(&d, n, 20)
		ofA, ofB, ofMixed := impl.Waves(a), impl.Waves(b), impl.Waves(mixedPairs(a, b))
		for k := range ofA {
			if want := impl.MulPair(ofA[k], ofB[k]); ofMixed[k] != want {
				t.Fatalf("%v and %v, mixed: %v and not %v at %d", a, b, ofMixed[k], want, k)
			}
		}
	}
}

func mixedPairs(a, b []impl.Pair) []impl.Pair {
	sums := make([]impl.Pair, len(a))
	for i, p := range a {
		for j, q := range b {
			k := (i + j) % len(a)
			sums[k] = impl.AddPair(sums[k], impl.MulPair(p, q))
		}
	}
	return sums
}

// Of other lengths they come back nearly.
func TestWavesComeBackNearly(t *testing.T) {
	d := dice(1606)
	for _, n := range waveLengths {
		for range 50 {
			row := rolledPairs(&d, n, 0)
			again := impl.Unwaves(impl.Waves(row))
			for i, p := range row {
				if math.Abs(again[i].Re-p.Re) > 1e-7 || math.Abs(again[i].Im-p.Im) > 1e-7 {
					t.Fatalf("Unwaves(Waves(%v)) = %v", row, again)
				}
			}
		}
	}
}

// Promise 16: the waves of real rows are conjugate.
func TestWavesOfRealRows(t *testing.T) {
	for _, row := range rowsOfPairs() {
		n := len(row)
		for i := range row {
			row[i].Im = 0
		}
		waves, back := impl.Waves(row), impl.Unwaves(row)
		for k := range waves {
			if other := waves[(n-k)%n]; !samePair(waves[k], impl.ConjPair(other)) {
				t.Fatalf("Waves(%v): %v at %d and %v", row, waves[k], k, other)
			}
			if other := back[(n-k)%n]; !sameFloat(back[k].Re, other.Re) || !sameFloat(back[k].Im, 0-other.Im) && back[k].Im != 0 {
				t.Fatalf("Unwaves(%v): %v at %d and %v", row, back[k], k, other)
			}
		}
	}
}

func TestRowsOfOtherLengths(t *testing.T) {
	for n := range 200 {
		row := times(n, impl.Pair{Re: 1, Im: 2})
		want := 0
		if slices.Contains(waveLengths, n) {
			want = n
		}
		if w, u, c := impl.Waves(row), impl.Unwaves(row), impl.Cut(row, 3); len(w) != want || len(u) != want || len(c) != want {
			t.Error(n, len(w), len(u), len(c))
		}
	}
	for _, n := range []int{360, 1296, impl.MaxList, impl.MaxList + 1, 36000} {
		row := times(n, impl.Pair{Re: 1})
		if w, u, c := impl.Waves(row), impl.Unwaves(row), impl.Cut(row, math.MaxInt64); len(w) != 0 || len(u) != 0 || len(c) != 0 {
			t.Error(n, len(w), len(u), len(c))
		}
	}
	if len(impl.Waves(nil)) != 0 || len(impl.Unwaves(nil)) != 0 || len(impl.Cut(nil, 5)) != 0 || len(impl.Cut(nil, -5)) != 0 {
		t.Error("none")
	}
}

func TestCutByHand(t *testing.T) {
	six := pairs(1, -1, 2, -2, 3, -3, 4, -4, 5, -5, 6, -6)
	three := pairs(1, 1, 2, 2, 3, 3)
	for _, c := range []struct {
		row  []impl.Pair
		keep int64
		want []impl.Pair
	}{
		{six, -1, pairs(0, 0, 0, 0, 0, 0, 0, 0, 0, 0, 0, 0)}, {six, 0, pairs(1, -1, 0, 0, 0, 0, 0, 0, 0, 0, 0, 0)}, {six, 1, pairs(1, -1, 2, -2, 0, 0, 0, 0, 0, 0, 6, -6)},
		{six, 2, pairs(1, -1, 2, -2, 3, -3, 0, 0, 5, -5, 6, -6)}, {six, 3, six}, {six, 4, six}, {six, math.MaxInt64, six}, {six, math.MinInt64, make([]impl.Pair, 6)},
		{three, 0, pairs(1, 1, 0, 0, 0, 0)}, {three, 1, three}, {three, 2, three}, {three, -1, make([]impl.Pair, 3)},
		{pairs(7, 8), -1, pairs(0, 0)}, {pairs(7, 8), 0, pairs(7, 8)}, {pairs(7, 8), 1, pairs(7, 8)}, {pairs(1, 2, 3, 4), 0, pairs(1, 2, 0, 0)}, {pairs(1, 2, 3, 4), 1, pairs(1, 2, 3, 4)},
		{pairs(none, below0, high, 1, below0, low), 0, pairs(none, below0, 0, 0, 0, 0)}, {pairs(none, below0, high, 1, below0, low), 1, pairs(none, below0, high, 1, below0, low)},
	} {
		if got := impl.Cut(c.row, c.keep); !samePairs(got, c.want) {
			t.Errorf("Cut(%v, %d) = %v", c.row, c.keep, got)
		}
	}
}

func TestCutOfEachLength(t *testing.T) {
	for _, row := range rowsOfPairs() {
		n := int64(len(row))
		for keep := int64(-2); keep <= n+1; keep++ {
			got := impl.Cut(row, keep)
			for k := range n {
				want := impl.Pair{}
				if k <= keep || n-k <= keep {
					want = row[k]
				}
				if int64(len(got)) != n || !samePair(got[k], want) {
					t.Fatalf("Cut(%v, %d) = %v", row, keep, got)
				}
			}
			if !samePairs(impl.Cut(got, keep), got) {
				t.Fatalf("Cut(%v, %d) is cut again", row, keep)
			}
		}
	}
}

func TestEnergyByHand(t *testing.T) {
	for _, c := range []struct {
		row  []impl.Pair
		want float64
	}{
		{nil, 0}, {pairs(), 0}, {pairs(3, 4), 25}, {pairs(-3, 4, 1, -2), 30}, {pairs(10, 0, -2, 2, -2, 0, -2, -2), 120}, {pairs(below0, below0), 0},
		{times(5, impl.Pair{Re: 1, Im: -1}), 10}, {times(37, impl.Pair{Re: 2}), 148},
		// Each one's squares first, then the sum from the left.
		{pairs(1e8, 0, 1, 0, 1, 0), 1e16}, {pairs(1, 0, 1, 0, 1e8, 0), 1e16 + 2}, {pairs(1e8, 0, 1, 1), 1e16 + 2}, {pairs(1, 1e8, 1, 0), 1e16}, {pairs(1, 0, 1e8, 1), 1e16}, {pairs(1, 0, 1, 1e8), 1e16},
		{pairs(1e200, 0), high}, {pairs(0, -1e200, 1, 1), high}, {pairs(most, most, most, most), high}, {pairs(high, 0), high}, {pairs(low, 1), high}, {pairs(high, low), high},
		{pairs(1e-200, 1e-200), 0}, {pairs(least, 0), 0}, {pairs(none, 0), none}, {pairs(1, 1, 0, payload), none}, {pairs(high, none), none}, {pairs(high, 0, none, 0), none}, {pairs(none, 0, high, 0), none},
		{times(impl.MaxList, impl.Pair{Re: 1, Im: 2}), 20000}, {times(impl.MaxList+1, impl.Pair{Re: 1, Im: 2}), 0}, {times(impl.MaxList+1, impl.Pair{Re: none}), 0}, {times(3*impl.MaxList, impl.Pair{Re: high}), 0},
		{times(impl.MaxList, impl.Pair{Re: none}), none},
	} {
		if got := impl.Energy(c.row); !sameFloat(got, c.want) {
			t.Errorf("Energy(%.80v) = %v and not %v", c.row, got, c.want)
		}
	}
}

func TestEnergyBySteps(t *testing.T) {
	d := dice(1607)
	for range 2000 {
		row := rolledPairs(&d, int(d.below(50)), d.below(5))
		sum := 0.0
		for _, p := range row {
			re, im := float64(p.Re*p.Re), float64(p.Im*p.Im)
			both := float64(re + im)
			sum = float64(sum + both)
		}
		if got := impl.Energy(row); !sameFloat(got, sum) {
			t.Fatalf("Energy(%v) = %v", row, got)
		}
	}
}
