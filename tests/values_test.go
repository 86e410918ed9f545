package tests

import (
	"math"
	"math/big"
	"strconv"
	"strings"
	"testing"

	"loop.example/g00051/impl"
)

// oddNumbers are those at which a number's kind changes.
func oddNumbers() []float64 {
	list := []float64{none, payload, high, low}
	for _, x := range []float64{0, least, 0x1p-1022, 0.05, 0.4999999999999999, 0.5, 0.5000000000000001, 1, 1.5, 2.5, 12.25, 0x1p52, 0x1p53, 1e15, math.Nextafter(1e15, 0), math.Nextafter(1e15, high), 1e18, 1e302, 1e308, most} {
		list = append(list, x, math.Copysign(x, -1))
	}
	return list
}

func TestSameHoldsAllBits(t *testing.T) {
	list := oddNumbers()
	for i, a := range list {
		for j, b := range list {
			want := i == j || a != a && b != b
			if got := impl.Same(a, b); got != want {
				t.Errorf("Same(%v, %v) = %v", a, b, got)
			}
		}
	}
	if impl.Same(0, below0) || impl.Same(below0, 0) {
		t.Error("0 and -0 are the same")
	}
	if !impl.Same(none, payload) {
		t.Error("two NaNs are not the same")
	}
	if impl.Same(1, math.Nextafter(1, 2)) {
		t.Error("the last bit")
	}
}

func TestKnown(t *testing.T) {
	for _, x := range oddNumbers() {
		want := x == x && x != high && x != low
		if impl.Known(x) != want {
			t.Errorf("Known(%v) = %v", x, !want)
		}
	}
}

func TestNearestEdges(t *testing.T) {
	for _, c := range []struct {
		x float64
		n int64
	}{
		{0, 0}, {below0, 0}, {least, 0}, {-least, 0},
		{0.5, 0}, {-0.5, 0}, {1.5, 2}, {-1.5, -2}, {2.5, 2}, {-2.5, -2}, {3.5, 4},
		{0.49999999999999994, 0}, {0.5000000000000001, 1}, {-0.5000000000000001, -1},
		{562949953421312.5, 562949953421312}, {562949953421313.5, 562949953421314},
		{999999999999999.5, 1000000000000000}, {999999999999998.5, 999999999999998},
		{impl.MaxWhole, impl.MaxWhole}, {-impl.MaxWhole, -impl.MaxWhole},
		{impl.MaxWhole - 1, impl.MaxWhole - 1}, {1 - impl.MaxWhole, 1 - impl.MaxWhole},
	} {
		if n, ok := impl.Nearest(c.x); n != c.n || !ok {
			t.Errorf("Nearest(%v) = %v, %v", c.x, n, ok)
		}
	}
	for _, x := range []float64{none, payload, high, low, impl.MaxWhole + 1, -impl.MaxWhole - 1, math.Nextafter(impl.MaxWhole, high), math.Nextafter(-impl.MaxWhole, low), 1e19, -1e19, most, -most} {
		if n, ok := impl.Nearest(x); n != 0 || ok {
			t.Errorf("Nearest(%v) = %v, %v", x, n, ok)
		}
	}
}

func TestNearestIsNearest(t *testing.T) {
	d := dice(1)
	for range 20000 {
		x := float64(d.below(1<<53)-1<<52) / float64(int64(1)<<d.below(60))
		n, ok := impl.Nearest(x)
		if math.Abs(x) > impl.MaxWhole {
			if ok || n != 0 {
				t.Errorf("Nearest(%v) = %v, %v", x, n, ok)
			}
			continue
		}
		// Below 2 to the 52 the difference is exact.
		off := math.Abs(x - float64(n))
		if !ok || off > 0.5 || off == 0.5 && n%2 != 0 {
			t.Errorf("Nearest(%v) = %v, %v", x, n, ok)
		}
	}
}

func TestToldEdges(t *testing.T) {
	for _, c := range []struct {
		x      float64
		places int64
		text   string
	}{
		{0, 0, "0"}, {below0, 0, "0"}, {below0, 3, "0.000"}, {0, impl.MaxPlaces, "0.000000"},
		{-0.4, 0, "0"}, {-0.5, 0, "0"}, {-0.04, 1, "0.0"}, {-0.06, 1, "-0.1"}, {-0.5, 1, "-0.5"},
		{0.5, 0, "0"}, {1.5, 0, "2"}, {2.5, 0, "2"}, {-2.5, 0, "-2"}, {0.125, 2, "0.12"}, {0.375, 2, "0.38"},
		{0.25, 1, "0.2"}, {0.75, 1, "0.8"}, {9.96, 1, "10.0"}, {99.5, 0, "100"},
		{0.05, 2, "0.05"}, {0.000001, 6, "0.000001"}, {-0.000001, 6, "-0.000001"}, {123.456, 3, "123.456"}, {-123.456, 3, "-123.456"},
		{1.005, 2, "1.00"}, {1.15, 1, "1.2"}, // the product is rounded ahead of it all
		{1e15, 0, "1000000000000000"}, {-1e15, 0, "-1000000000000000"}, {1e9, 6, "1000000000.000000"}, {-1e9, 6, "-1000000000.000000"},
		{1e15 + 1, 0, "far"}, {-1e15 - 1, 0, "far"}, {1e14 + 0.1, 1, "far"}, {1e9 + 0.000001, 6, "far"}, {most, 0, "far"}, {-most, 6, "far"},
		{none, 0, "/"}, {payload, impl.MaxPlaces, "/"}, {high, 0, "high"}, {high, impl.MaxPlaces, "high"}, {low, 0, "low"}, {low, 2, "low"},
		{1, -1, ""}, {1, impl.MaxPlaces + 1, ""}, {none, -1, ""}, {high, impl.MaxPlaces + 1, ""}, {low, math.MinInt64, ""}, {1, math.MaxInt64, ""},
	} {
		if text := impl.Told(c.x, c.places); text != c.text {
			t.Errorf("Told(%v, %d) = %q, not %q", c.x, c.places, text, c.text)
		}
	}
}

// wholeText writes n with a point ahead of its last digits, by the library's big numbers.
func wholeText(n int64, places int64) string {
	power := new(big.Int).Exp(big.NewInt(10), big.NewInt(places), nil)
	return new(big.Rat).SetFrac(big.NewInt(n), power).FloatString(int(places))
}

// wholes are whole numbers up to MaxWhole, with those at its edge and of every length.
func wholes() []int64 {
	list := []int64{0}
	for n := int64(1); n <= impl.MaxWhole; n *= 10 {
		list = append(list, n, n-1, 5*min(n, impl.MaxWhole/10))
	}
	d := dice(2)
	for range 4000 {
		list = append(list, d.below(impl.MaxWhole+1)>>d.below(50), impl.MaxWhole-d.below(3000))
	}
	return list
}

func TestReadNumberGivesBackWhatIsTold(t *testing.T) {
	for _, size := range wholes() {
		for _, n := range []int64{size, -size} {
			for places := range int64(impl.MaxPlaces + 1) {
				text := wholeText(n, places)
				x, ok := impl.ReadNumber(text)
				want := float64(n) / math.Pow10(int(places))
				if !ok || !sameFloat(x, want) {
					t.Fatalf("ReadNumber(%q) = %v, %v", text, x, ok)
				}
				if again := impl.Told(x, places); again != text {
					t.Fatalf("Told(%v, %d) = %q, read from %q", x, places, again, text)
				}
			}
		}
	}
}

func TestToldIsReadBack(t *testing.T) {
	d := dice(3)
	list := oddNumbers()
	for range 20000 {
		list = append(list, math.Float64frombits(d.next()), float64(d.below(2e9)-1e9)/1e6, float64(d.below(2e15)-1e15))
	}
	for _, x := range list {
		for places := range int64(impl.MaxPlaces + 1) {
			text := impl.Told(x, places)
			y, ok := impl.ReadNumber(text)
			if text == "far" {
				if ok || math.Abs(x)*math.Pow10(int(places)) <= impl.MaxWhole {
					t.Fatalf("far: %v at %d", x, places)
				}
				continue
			}
			if !ok || impl.Told(y, places) != text {
				t.Fatalf("Told(%v, %d) = %q, read back as %v, %v", x, places, text, y, ok)
			}
			if !impl.Known(x) && !sameFloat(x, y) {
				t.Fatalf("%v came back as %v", x, y)
			}
		}
	}
}

func TestReadNumberRefuses(t *testing.T) {
	for _, text := range []string{
		"", " ", "far", "FAR", "High", "Low", "LOW", "highs", "//", "/ ", "-/", "-high", "+high", "nan", "NaN", "inf", "Inf", "-Inf",
		"-", "+", ".", "-.", "+1", "+0", "-0", "-0.0", "-0.000000", "00", "01", "-01", "00.5", "01.5", "-00.5",
		".5", "-.5", "5.", "-5.", "0.", "1.0000000", "0.0000000", "1..5", "1.2.3", "1.-5", "-1.-5", ".-5", "--1", "1-", "1.5-",
		" 1", "1 ", "1\n", "\t1", "1 000", "1,5", "1_0", "1_000", "0x10", "0b1", "1e3", "1E3", "1e-3", "0x1p4", "1f", "a", "O", "\x00", "1\x00", "\xff", "١",
		"1000000000000001", "-1000000000000001", "100000000000000.1", "1000000000.000001", "-1000000000.000001", "10000000000000000",
		"9223372036854775807", "9223372036854775808", "-9223372036854775808", "-9223372036854775809", "18446744073709551616", "1" + strings.Repeat("0", 100), strings.Repeat("0", 100), strings.Repeat("9", 100000),
	} {
		if x, ok := impl.ReadNumber(text); ok || !sameFloat(x, 0) {
			t.Errorf("ReadNumber(%.40q) = %v, %v", text, x, ok)
		}
	}
	for text, want := range map[string]float64{"/": none, "high": high, "low": low, "0": 0, "0.000000": 0, "1000000000000000": 1e15, "-1000000000000000": -1e15, "100000000000000.0": 1e14, "-1000000000.000000": -1e9, "0.3": 0.3, "-0.1": -0.1} {
		if x, ok := impl.ReadNumber(text); !ok || !sameFloat(x, want) {
			t.Errorf("ReadNumber(%q) = %v, %v", text, x, ok)
		}
	}
}

// Of all short texts of these bytes just those are read that some number is told as.
func TestReadNumberReadsNothingElse(t *testing.T) {
	told := map[string]bool{}
	for n := int64(-9999); n <= 9999; n++ {
		for places := range int64(5) {
			told[wholeText(n, places)] = true
		}
	}
	const alphabet = "-.019"
	texts := []string{""}
	for len(texts[0]) < 5 {
		var longer []string
		for _, text := range texts {
			for i := range len(alphabet) {
				longer = append(longer, text+alphabet[i:i+1])
			}
		}
		texts = longer
		for _, text := range texts {
			if _, ok := impl.ReadNumber(text); ok != told[text] {
				if n, err := strconv.Atoi(text); err != nil || n < 10000 || text != strconv.Itoa(n) {
					t.Errorf("ReadNumber(%q): %v", text, ok)
				}
			}
		}
	}
}

func TestMissingIsNeverANumber(t *testing.T) {
	for _, x := range []float64{none, payload} {
		if impl.Known(x) {
			t.Error("known")
		}
		if _, ok := impl.Nearest(x); ok {
			t.Error("nearest")
		}
		for places := range int64(impl.MaxPlaces + 1) {
			if text := impl.Told(x, places); text != "/" {
				t.Error(text)
			}
		}
		if sum, n := impl.Sum([]float64{x, 4, x, x}); sum != 4 || n != 1 {
			t.Error(sum, n)
		}
		for _, y := range oddNumbers() {
			if y == y && impl.Same(x, y) {
				t.Error("the same as", y)
			}
		}
	}
	if x, ok := impl.ReadNumber("/"); !ok || x == x {
		t.Error("read as", x, ok)
	}
}

func filled(n int, x float64) []float64 {
	list := make([]float64, n)
	for i := range list {
		list[i] = x
	}
	return list
}

func TestSumFromTheLeft(t *testing.T) {
	for _, c := range []struct {
		list  []float64
		sum   float64
		count int64
	}{
		{nil, 0, 0}, {[]float64{}, 0, 0}, {[]float64{below0}, 0, 1}, {[]float64{below0, below0}, 0, 2},
		{[]float64{none, high, low, payload}, 0, 0}, {[]float64{high, 2, low, 3, none}, 5, 2},
		{[]float64{1e16, 1, 1}, 1e16, 3}, {[]float64{1, 1, 1e16}, 1e16 + 2, 3}, {[]float64{1e16, 1, -1e16}, 0, 3},
		{[]float64{0.1, 0.2, 0.3}, 0.6000000000000001, 3}, {[]float64{0.3, 0.2, 0.1}, 0.6, 3},
		{[]float64{most, most}, high, 2}, {[]float64{-most, -most, most}, low, 3},
		{filled(impl.MaxList, 1), impl.MaxList, impl.MaxList}, {filled(impl.MaxList, none), 0, 0},
		{filled(impl.MaxList+1, 1), 0, -1}, {filled(impl.MaxList+1, none), 0, -1}, {filled(3*impl.MaxList, 1), 0, -1},
	} {
		sum, count := impl.Sum(c.list)
		if !sameFloat(sum, c.sum) || count != c.count {
			t.Errorf("Sum of %d numbers = %v, %v, not %v, %v", len(c.list), sum, count, c.sum, c.count)
		}
	}
}

func TestMean(t *testing.T) {
	for _, c := range []struct {
		list []float64
		mean float64
	}{
		{nil, none}, {[]float64{none}, none}, {[]float64{high, low}, none}, {[]float64{below0}, 0}, {[]float64{-2}, -2},
		{[]float64{1, none, 2, high}, 1.5}, {[]float64{1, 1, 0}, 0.6666666666666666}, {[]float64{most, most}, high},
		{filled(impl.MaxList, 3), 3}, {filled(impl.MaxList+1, 3), none},
	} {
		if mean := impl.Mean(c.list); !sameFloat(mean, c.mean) {
			t.Errorf("Mean of %d numbers = %v, not %v", len(c.list), mean, c.mean)
		}
	}
}

// counted says how often each number is there, all NaNs being one.
func counted(list []float64) map[uint64]int {
	count := map[uint64]int{}
	for _, x := range list {
		if x != x {
			x = none
		}
		count[math.Float64bits(x)]++
	}
	return count
}

func inOrder(a, b float64) bool {
	if a != a || b != b {
		return b != b
	}
	return a < b || a == b && (math.Signbit(a) || !math.Signbit(b))
}

func TestOrderHasTheSameNumbers(t *testing.T) {
	d := dice(4)
	odd := oddNumbers()
	for _, n := range []int{0, 1, 2, 3, 7, 50, 1000, impl.MaxList - 1, impl.MaxList} {
		list := make([]float64, n)
		for i := range list {
			list[i] = odd[d.below(int64(len(odd)))]
			if d.below(2) == 0 {
				list[i] = float64(d.below(100)-50) / 4
			}
		}
		ordered := impl.Order(list)
		if len(ordered) != n {
			t.Fatalf("%d numbers became %d", n, len(ordered))
		}
		for i := 1; i < n; i++ {
			if !inOrder(ordered[i-1], ordered[i]) {
				t.Fatalf("%v stands ahead of %v", ordered[i-1], ordered[i])
			}
		}
		before, after := counted(list), counted(ordered)
		for bits, count := range before {
			if after[bits] != count {
				t.Fatalf("%v: %d became %d", math.Float64frombits(bits), count, after[bits])
			}
		}
	}
}

func TestOrderEdges(t *testing.T) {
	got := impl.Order([]float64{none, high, 0, 1, below0, payload, -1, low, 0, below0, least, -least, none})
	want := []float64{low, -1, -least, below0, below0, 0, 0, least, 1, high, none, none, none}
	if len(got) != len(want) {
		t.Fatal(got)
	}
	for i := range want {
		if !sameFloat(got[i], want[i]) {
			t.Fatal(got)
		}
	}
	if len(impl.Order(nil)) != 0 || len(impl.Order([]float64{})) != 0 {
		t.Error("of none")
	}
	if len(impl.Order(filled(impl.MaxList, 1))) != impl.MaxList {
		t.Error("as long as may be")
	}
	if len(impl.Order(filled(impl.MaxList+1, 1))) != 0 {
		t.Error("too long")
	}
}
