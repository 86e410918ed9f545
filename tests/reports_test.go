package tests

import (
	"fmt"
	"math"
	"slices"
	"strings"
	"testing"

	"loop.example/g00051/impl"
)

func sameObs(a, b impl.Obs) bool {
	return a.Station == b.Station && sameFloat(a.Temp, b.Temp) && sameFloat(a.Dew, b.Dew) && sameFloat(a.Press, b.Press) &&
		a.Dir == b.Dir && sameFloat(a.Speed, b.Speed) && sameFloat(a.Vis, b.Vis) && sameFloat(a.Rain, b.Rain) &&
		a.Weather == b.Weather && a.Cloud == b.Cloud
}

// bareObs says nothing but its station.
func bareObs(station int64) impl.Obs {
	return impl.Obs{Station: station, Temp: none, Dew: none, Press: none, Dir: -1, Speed: none, Vis: none, Rain: none, Weather: -1, Cloud: -1}
}

func fullObs() impl.Obs {
	return impl.Obs{Station: 10384, Temp: 21.5, Dew: -3.2, Press: 1013.2, Dir: 27, Speed: 5, Vis: 10000, Rain: 1.2, Weather: 61, Cloud: 8}
}

// heard is what four digits say, as a change of a report.
type heard func(o *impl.Obs)

// hearing has, of each group's figure, all that a report may say there, by its four digits.
func hearing() map[byte]map[string]heard {
	all := map[byte]map[string]heard{}
	for group := byte('1'); group <= '7'; group++ {
		all[group] = map[string]heard{}
	}
	for n := -999; n <= 999; n++ {
		digits := fmt.Sprintf("0%03d", n)
		if n < 0 {
			digits = fmt.Sprintf("1%03d", -n)
		}
		all['1'][digits] = func(o *impl.Obs) { o.Temp = float64(n) / 10 }
		all['2'][digits] = func(o *impl.Obs) { o.Dew = float64(n) / 10 }
	}
	for n := 5000; n <= 14999; n++ {
		digits := fmt.Sprintf("%05d", n)[1:]
		all['3'][digits] = func(o *impl.Obs) { o.Press = float64(n) / 10 }
	}
	for dir := int64(0); dir <= 36; dir++ {
		for speed := 0; speed <= 99; speed++ {
			if (dir == 0) == (speed == 0) {
				all['4'][fmt.Sprintf("%02d%02d", dir, speed)] = func(o *impl.Obs) { o.Dir, o.Speed = dir, float64(speed) }
			}
		}
	}
	for n := 0; n <= 9999; n++ {
		digits := fmt.Sprintf("%04d", n)
		all['5'][digits] = func(o *impl.Obs) { o.Vis = float64(10 * n) }
		all['6'][digits] = func(o *impl.Obs) { o.Rain = float64(n) / 10 }
	}
	for weather := int64(0); weather <= 99; weather++ {
		for cloud := int64(0); cloud <= 8; cloud++ {
			all['7'][fmt.Sprintf("%02d%d0", weather, cloud)] = func(o *impl.Obs) { o.Weather, o.Cloud = weather, cloud }
		}
	}
	return all
}

// Promise 5: a report is read back value by value; here each value that a group can say, by itself.
func TestEachValueIsWrittenAndReadBack(t *testing.T) {
	for group, says := range hearing() {
		for digits, hear := range says {
			o := bareObs(7)
			hear(&o)
			want := "00007 " + string(group) + digits + "="
			if !impl.ObsOk(o) {
				t.Fatalf("%v is not right", o)
			}
			if text := impl.ObsText(o); text != want {
				t.Fatalf("%v: %q, not %q", o, text, want)
			}
			if back, faults, code := impl.ReadObs(want); !sameObs(back, o) || len(faults) != 0 || code != 0 {
				t.Fatalf("%q: %v, %v, %d", want, back, faults, code)
			}
		}
	}
}

// Four digits that no right report has, in each group; all others are taken.
func TestEachFourDigits(t *testing.T) {
	known := hearing()
	for group := byte('1'); group <= '7'; group++ {
		for n := range 10000 {
			digits := fmt.Sprintf("%04d", n)
			o, faults, code := impl.ReadObs("00007 " + string(group) + digits + "=")
			want, told := bareObs(7), []impl.Fault{{At: 1, Code: impl.FkValue}}
			if hear := known[group][digits]; hear != nil {
				hear(&want)
				told = nil
			}
			if !sameObs(o, want) || !slices.Equal(faults, told) || code != 0 {
				t.Fatalf("%c%s: %v, %v, %d", group, digits, o, faults, code)
			}
		}
	}
}

func TestWrongDigitsByHand(t *testing.T) {
	for _, group := range []string{
		"11000", "21000", "12000", "19999", "22001", "20x00", "43701", "40001", "40900", "43600", "49999", "40100", "70090", "70001", "79989", "76189", "79990",
	} {
		code := int64(impl.FkValue)
		if strings.Contains(group, "x") {
			code = impl.FkChar
		}
		if o, faults, _ := impl.ReadObs("00007 " + group + "="); !sameObs(o, bareObs(7)) || !slices.Equal(faults, []impl.Fault{{At: 1, Code: code}}) {
			t.Errorf("%s: %v, %v", group, o, faults)
		}
	}
	o, faults, code := impl.ReadObs("99999 10000 21001 35000 40000 50000 60000 70000=")
	want := impl.Obs{Station: 99999, Temp: 0, Dew: -0.1, Press: 500, Dir: 0, Speed: 0, Vis: 0, Rain: 0, Weather: 0, Cloud: 0}
	if !sameObs(o, want) || len(faults) != 0 || code != 0 {
		t.Error(o, faults, code)
	}
	o, faults, code = impl.ReadObs("00001 11999 20999 34999 43699 59999 69999 79980=")
	want = impl.Obs{Station: 1, Temp: -99.9, Dew: 99.9, Press: 1499.9, Dir: 36, Speed: 99, Vis: 99990, Rain: 999.9, Weather: 99, Cloud: 8}
	if !sameObs(o, want) || len(faults) != 0 || code != 0 {
		t.Error(o, faults, code)
	}
}

// A little beside a number that is right.
func besides(x float64) []float64 {
	return []float64{math.Nextafter(x, high), math.Nextafter(x, low)}
}

func TestNumbersOfAReport(t *testing.T) {
	never := []float64{high, low, below0, most, -most, least, -least, 1e300, 1e15, 1e18, 0.05, 21.55, 21.54999999999999}
	for _, c := range []struct {
		name         string
		set          func(o *impl.Obs, x float64)
		right, wrong []float64
	}{
		{"Temp", func(o *impl.Obs, x float64) { o.Temp = x }, []float64{none, payload, -99.9, -99.8, -0.1, 0, 0.1, 0.3, 10, 99.9}, []float64{-100, 100, -100.0001, -99.95, 99.95}},
		{"Dew", func(o *impl.Obs, x float64) { o.Dew = x }, []float64{none, payload, -99.9, -0.1, 0, 0.7, 99.9}, []float64{-100, 100, -99.95, 99.95}},
		{"Press", func(o *impl.Obs, x float64) { o.Press = x }, []float64{none, payload, 500, 500.1, 999.9, 1000, 1013.2, 1499.9}, []float64{499.9, 1500, 0, -500, 1013.25, 10132}},
		{"Vis", func(o *impl.Obs, x float64) { o.Vis = x }, []float64{none, payload, 0, 10, 20, 9990, 10000, 99990}, []float64{-10, 100000, 5, 15, 1, 10.1, 99991, 99999}},
		{"Rain", func(o *impl.Obs, x float64) { o.Rain = x }, []float64{none, payload, 0, 0.1, 1.2, 999.9}, []float64{-0.1, 1000, 0.25, 999.95}},
	} {
		wrong := append(slices.Clone(c.wrong), never...)
		for _, x := range c.right {
			o := fullObs()
			c.set(&o, x)
			if !impl.ObsOk(o) || impl.ObsText(o) == "" {
				t.Errorf("%s %v is not right", c.name, x)
			}
			wrong = append(wrong, besides(x)...)
		}
		for _, x := range wrong {
			if x != x {
				continue
			}
			o := fullObs()
			c.set(&o, x)
			if impl.ObsOk(o) || impl.ObsText(o) != "" {
				t.Errorf("%s %v is right", c.name, x)
			}
		}
	}
	// The tenth is the one that is next to the quotient, not a sum of tenths.
	for x, ok := range map[float64]bool{0.3: true, tenths(0.1, 0.2): false} {
		o := fullObs()
		o.Temp = x
		if impl.ObsOk(o) != ok {
			t.Errorf("%v: %v", x, !ok)
		}
	}
}

func tenths(a, b float64) float64 {
	return a + b
}

func TestWindOfAReport(t *testing.T) {
	for _, c := range []struct {
		dir   int64
		speed float64
		right bool
	}{
		{-1, none, true}, {-1, payload, true}, {-1, 0, false}, {-1, 5, false}, {-1, high, false},
		{0, 0, true}, {0, below0, false}, {0, 1, false}, {0, 99, false}, {0, none, false}, {0, least, false},
		{1, 1, true}, {1, 99, true}, {1, 100, false}, {1, 0, false}, {1, -1, false}, {1, none, false}, {1, 0.5, false}, {1, 1.1, false},
		{36, 1, true}, {36, 99, true}, {36, 0, false}, {36, below0, false}, {37, 1, false}, {37, none, false}, {-2, none, false}, {-2, 1, false},
		{27, 5, true}, {27, math.Nextafter(5, 6), false}, {27, math.Nextafter(5, 4), false}, {27, 99.1, false}, {27, high, false}, {27, low, false},
		{math.MaxInt64, 5, false}, {math.MinInt64, 5, false}, {math.MinInt64, none, false}, {1 << 32, 5, false},
	} {
		o := fullObs()
		o.Dir, o.Speed = c.dir, c.speed
		if impl.ObsOk(o) != c.right || (impl.ObsText(o) != "") != c.right {
			t.Errorf("%d, %v: %v", c.dir, c.speed, !c.right)
		}
	}
}

func TestSkyAndStationOfAReport(t *testing.T) {
	for _, c := range []struct {
		weather, cloud int64
		right          bool
	}{
		{-1, -1, true}, {-1, 0, false}, {0, -1, false}, {-1, 8, false}, {99, -1, false}, {0, 0, true}, {99, 8, true}, {0, 8, true}, {99, 0, true},
		{100, 0, false}, {0, 9, false}, {-2, 0, false}, {0, -2, false}, {-2, -2, false}, {100, 9, false}, {-1, -2, false}, {-2, -1, false},
		{math.MaxInt64, 0, false}, {0, math.MinInt64, false},
	} {
		o := fullObs()
		o.Weather, o.Cloud = c.weather, c.cloud
		if impl.ObsOk(o) != c.right || (impl.ObsText(o) != "") != c.right {
			t.Errorf("%d, %d: %v", c.weather, c.cloud, !c.right)
		}
	}
	for station, want := range map[int64]string{
		0: "", 1: "00001=", 384: "00384=", 99999: "99999=", 100000: "", -1: "", -99999: "", math.MaxInt64: "", math.MinInt64: "", 1<<32 + 1: "",
	} {
		if text := impl.ObsText(bareObs(station)); text != want || impl.ObsOk(bareObs(station)) != (want != "") {
			t.Errorf("%d: %q", station, text)
		}
	}
	if impl.ObsOk(impl.Obs{}) || impl.ObsText(impl.Obs{}) != "" {
		t.Error("the zero value is right")
	}
}

// With each field known and missing: all 128 ways to leave groups out.
func TestEachFieldMissing(t *testing.T) {
	groups := []string{"10215", "21032", "30132", "42705", "51000", "60012", "76180"}
	unsay := []heard{
		func(o *impl.Obs) { o.Temp = none }, func(o *impl.Obs) { o.Dew = none }, func(o *impl.Obs) { o.Press = none },
		func(o *impl.Obs) { o.Dir, o.Speed = -1, none }, func(o *impl.Obs) { o.Vis = none }, func(o *impl.Obs) { o.Rain = none },
		func(o *impl.Obs) { o.Weather, o.Cloud = -1, -1 },
	}
	for said := range 1 << len(groups) {
		o, text, slashed := fullObs(), "10384", "10384"
		for i, group := range groups {
			if said>>i&1 == 1 {
				text, slashed = text+" "+group, slashed+" "+group
			} else {
				unsay[i](&o)
				slashed += " " + group[:1] + "////"
			}
		}
		if got := impl.ObsText(o); got != text+"=" || !impl.ObsOk(o) {
			t.Fatalf("%q, not %q", got, text+"=")
		}
		for _, given := range []string{text + "=", slashed + "="} {
			if back, faults, code := impl.ReadObs(given); !sameObs(back, o) || len(faults) != 0 || code != 0 {
				t.Fatalf("%q: %v, %v, %d", given, back, faults, code)
			}
		}
	}
}

func TestNumbersOfTheCodes(t *testing.T) {
	for i, code := range []int64{impl.RpEnd, impl.RpWords, impl.RpStation} {
		if code != int64(i+1) {
			t.Errorf("the code %d of a text is %d", i+1, code)
		}
	}
	for i, code := range []int64{impl.FkRepaired, impl.FkLength, impl.FkGroup, impl.FkOrder, impl.FkChar, impl.FkValue} {
		if code != int64(i+1) {
			t.Errorf("the code %d of a word is %d", i+1, code)
		}
	}
	if impl.MaxWords != 100 || impl.MaxLevels != 400 {
		t.Error("the limits", impl.MaxWords, impl.MaxLevels)
	}
}

func TestCodesOfAText(t *testing.T) {
	words := func(count int) string { return "10384" + strings.Repeat(" 9", count-1) + "=" }
	for text, want := range map[string]int64{
		"": impl.RpEnd, " ": impl.RpEnd, "10384": impl.RpEnd, "10384 10215": impl.RpEnd, "10384= ": impl.RpEnd, "10384=\n": impl.RpEnd, "=10384": impl.RpEnd, "x": impl.RpEnd,
		"=": impl.RpWords, " =": impl.RpWords, "     =": impl.RpWords, words(101): impl.RpWords, strings.Repeat("9 ", 101) + "=": impl.RpWords, words(5000): impl.RpWords,
		"==": impl.RpStation, "0=": impl.RpStation, "00000=": impl.RpStation, "1038=": impl.RpStation, "103841=": impl.RpStation, "000001=": impl.RpStation, "1038a=": impl.RpStation,
		"1O384=": impl.RpStation, "1o384=": impl.RpStation, "I0384=": impl.RpStation, "l0384=": impl.RpStation, "/////=": impl.RpStation, "-1038=": impl.RpStation, "+1038=": impl.RpStation, "10384\n=": impl.RpStation,
		"\t10384=": impl.RpStation, "10384\t10215=": impl.RpStation, "１0384=": impl.RpStation, "10215 10384x=": 0, strings.Repeat("9 ", 100) + "=": impl.RpStation,
		"10384=": 0, "00001=": 0, "99999=": 0, " 10384 =": 0, "   10384     10215  =": 0, words(100): 0, words(99): 0,
	} {
		o, faults, code := impl.ReadObs(text)
		if code != want {
			t.Errorf("%.40q: %d, not %d", text, code, want)
		}
		if want != 0 && (o != impl.Obs{} || len(faults) != 0) {
			t.Errorf("%.40q: %v, %v beside a code", text, o, faults)
		}
	}
	if o, faults, _ := impl.ReadObs(words(100)); !sameObs(o, bareObs(10384)) || len(faults) != 99 || faults[98] != (impl.Fault{At: 99, Code: impl.FkLength}) {
		t.Error("MaxWords words", o, len(faults))
	}
}

func TestEachLetterInEachPlace(t *testing.T) {
	for letter, figure := range map[byte]byte{'O': '0', 'o': '0', 'I': '1', 'l': '1'} {
		for place := range 5 {
			for _, word := range []string{"10215", "21032", "11111", "30000", "41001", "51010"} {
				given, plain := []byte(word), []byte(word)
				given[place], plain[place] = letter, figure
				text := "10384 " + string(given) + "="
				want, wantFaults, _ := impl.ReadObs("10384 " + string(plain) + "=")
				o, faults, code := impl.ReadObs(text)
				told := append([]impl.Fault{{At: 1, Code: impl.FkRepaired}}, wantFaults...)
				if !sameObs(o, want) || !slices.Equal(faults, told) || code != 0 {
					t.Errorf("%q: %v, %v, %d", text, o, faults, code)
				}
				if got := impl.Repair(string(given)); got != string(plain) {
					t.Errorf("Repair(%q) = %q", given, got)
				}
			}
			station := []byte("10384")
			station[place] = letter
			if _, _, code := impl.ReadObs(string(station) + " 10215="); code != impl.RpStation {
				t.Errorf("%q: %d", station, code)
			}
		}
	}
}

// The first of the faults where a word has several, behind what stands in front of it.
func TestFirstFaultOfAWord(t *testing.T) {
	const length, group, order, char, value, mended = impl.FkLength, impl.FkGroup, impl.FkOrder, impl.FkChar, impl.FkValue, impl.FkRepaired
	for _, c := range []struct {
		words string
		codes []int64
	}{
		{"1021", []int64{length}}, {"102150", []int64{length}}, {"8", []int64{length}}, {"x", []int64{length}}, {"1////9", []int64{length}}, {"1021é", []int64{length}}, {"\xff\xff", []int64{length}},
		{"1O2l", []int64{mended, length}}, {"O", []int64{mended, length}}, {"llllll", []int64{mended, length}},
		{"00215", []int64{group}}, {"80215", []int64{group}}, {"90215", []int64{group}}, {"/0215", []int64{group}}, {"/////", []int64{group}}, {"x////", []int64{group}}, {"8xxxx", []int64{group}}, {"-1234", []int64{group}}, {"0////", []int64{group}}, {"\xff0000", []int64{group}}, {"é000", []int64{group}}, {"=0000", []int64{group}},
		{"O0215", []int64{mended, group}}, {"o////", []int64{mended, group}}, {"8000O", []int64{mended, group}},
		{"1x215", []int64{char}}, {"1021x", []int64{char}}, {"1///0", []int64{char}}, {"10///", []int64{char}}, {"1//0/", []int64{char}}, {"1/0//", []int64{char}}, {"1 ///", []int64{length, length}}, {"1-001", []int64{char}}, {"1+001", []int64{char}}, {"1éé", []int64{char}}, {"1021\n", []int64{char}}, {"102.1", []int64{char}},
		{"1O///", []int64{mended, char}}, {"I//l/", []int64{mended, char}}, {"1xxxO", []int64{mended, char}},
		{"19999", []int64{value}}, {"1lOOO", []int64{mended, value}}, {"7OO9O", []int64{mended, value}},
		{"l////", []int64{mended}}, {"I////", []int64{mended}}, {"IIOOl", []int64{mended}},
	} {
		var told []impl.Fault
		for i, code := range c.codes {
			at := int64(1)
			if strings.Contains(c.words, " ") {
				at += int64(i)
			}
			told = append(told, impl.Fault{At: at, Code: code})
		}
		if _, faults, code := impl.ReadObs("10384 " + c.words + "="); !slices.Equal(faults, told) || code != 0 {
			t.Errorf("%q: %v, %d", c.words, faults, code)
		}
		// Behind a word that was taken order is told ahead of what the digits say.
		for i := range told {
			told[i].At++
			if told[i].Code == char || told[i].Code == value {
				told[i].Code = order
			}
		}
		if last := c.codes[len(c.codes)-1]; last == mended {
			told = append(told, impl.Fault{At: 2, Code: order})
		}
		if _, faults, code := impl.ReadObs("10384 7//// " + c.words + "="); !slices.Equal(faults, told) || code != 0 {
			t.Errorf("behind a 7: %q: %v, %d", c.words, faults, code)
		}
	}
}

func TestOrderOfGroups(t *testing.T) {
	said := func(o impl.Obs, say ...heard) impl.Obs {
		for _, s := range say {
			s(&o)
		}
		return o
	}
	temp := func(x float64) heard { return func(o *impl.Obs) { o.Temp = x } }
	dew := func(x float64) heard { return func(o *impl.Obs) { o.Dew = x } }
	press := func(x float64) heard { return func(o *impl.Obs) { o.Press = x } }
	for _, c := range []struct {
		text   string
		want   impl.Obs
		faults []impl.Fault
	}{
		{"10001 10002", said(bareObs(10384), temp(0.1)), []impl.Fault{{At: 2, Code: impl.FkOrder}}},
		{"10001 10001", said(bareObs(10384), temp(0.1)), []impl.Fault{{At: 2, Code: impl.FkOrder}}},
		{"20005 10001 39000", said(bareObs(10384), dew(0.5), press(900)), []impl.Fault{{At: 2, Code: impl.FkOrder}}},
		{"20005 10001 20006 39000", said(bareObs(10384), dew(0.5), press(900)), []impl.Fault{{At: 2, Code: impl.FkOrder}, {At: 3, Code: impl.FkOrder}}},
		// What was passed over is not the last that was taken.
		{"1x001 10002", said(bareObs(10384), temp(0.2)), []impl.Fault{{At: 1, Code: impl.FkChar}}},
		{"11000 10002", said(bareObs(10384), temp(0.2)), []impl.Fault{{At: 1, Code: impl.FkValue}}},
		{"43701 10002 20001", said(bareObs(10384), temp(0.2), dew(0.1)), []impl.Fault{{At: 1, Code: impl.FkValue}}},
		{"7///0 10002", said(bareObs(10384), temp(0.2)), []impl.Fault{{At: 1, Code: impl.FkChar}}},
		{"80000 10002", said(bareObs(10384), temp(0.2)), []impl.Fault{{At: 1, Code: impl.FkGroup}}},
		{"700000 10002", said(bareObs(10384), temp(0.2)), []impl.Fault{{At: 1, Code: impl.FkLength}}},
		{"20001 70001 39000", said(bareObs(10384), dew(0.1), press(900)), []impl.Fault{{At: 2, Code: impl.FkValue}}},
		{"39000 20001 39001", said(bareObs(10384), press(900)), []impl.Fault{{At: 2, Code: impl.FkOrder}, {At: 3, Code: impl.FkOrder}}},
		// What says nothing is taken.
		{"1//// 10002", bareObs(10384), []impl.Fault{{At: 2, Code: impl.FkOrder}}},
		{"2//// 10002 20001 39000", said(bareObs(10384), press(900)), []impl.Fault{{At: 2, Code: impl.FkOrder}, {At: 3, Code: impl.FkOrder}}},
		{"10001 1//// 2////", said(bareObs(10384), temp(0.1)), []impl.Fault{{At: 2, Code: impl.FkOrder}}},
		{"7////", bareObs(10384), nil},
		{"10001 39000", said(bareObs(10384), temp(0.1), press(900)), nil},
	} {
		if o, faults, code := impl.ReadObs("10384 " + c.text + "="); !sameObs(o, c.want) || !slices.Equal(faults, c.faults) || code != 0 {
			t.Errorf("%q: %v, %v, %d", c.text, o, faults, code)
		}
	}
}

func TestRepair(t *testing.T) {
	for word, want := range map[string]string{
		"": "", "OoIl": "0011", "10215": "10215", "iLQ0D|": "iLQ0D|", "Ol oI": "01 01", "\xffO\xfe": "\xff0\xfe", "éOü\x80l": "é0ü\x801", "0ΟОl": "0ΟО1", "a\nO": "a\n0",
	} {
		if got := impl.Repair(word); got != want {
			t.Errorf("Repair(%q) = %q", word, got)
		}
	}
	for b := range 256 {
		want := string([]byte{byte(b)})
		switch b {
		case 'O', 'o':
			want = "0"
		case 'I', 'l':
			want = "1"
		}
		if got := impl.Repair(string([]byte{byte(b)})); got != want {
			t.Errorf("Repair of the byte %d: %q", b, got)
		}
	}
	full := strings.Repeat("Olx\xff", impl.MaxText/4)
	if got := impl.Repair(full); got != strings.Repeat("01x\xff", impl.MaxText/4) {
		t.Error("MaxText bytes")
	}
	if got := impl.Repair(full + "x"); got != "" {
		t.Error("one byte more than MaxText")
	}
}

// A report's words may be longer than what Repair takes.
func TestLongWordsOfAReport(t *testing.T) {
	for _, c := range []struct {
		word  string
		codes []impl.Fault
	}{
		{strings.Repeat("x", impl.MaxText+1), []impl.Fault{{At: 1, Code: impl.FkLength}}},
		{strings.Repeat("x", impl.MaxText) + "O", []impl.Fault{{At: 1, Code: impl.FkRepaired}, {At: 1, Code: impl.FkLength}}},
	} {
		o, faults, code := impl.ReadObs("10384 " + c.word + " 10001=")
		want := bareObs(10384)
		want.Temp = 0.1
		if !sameObs(o, want) || !slices.Equal(faults, c.codes) || code != 0 {
			t.Error(o, faults, code)
		}
	}
	blanks := strings.Repeat(" ", 3*impl.MaxText)
	if o, faults, code := impl.ReadObs(blanks + "10384" + blanks + "10001" + blanks + "="); o.Temp != 0.1 || len(faults) != 0 || code != 0 {
		t.Error("many blanks", o, faults, code)
	}
}

// rolled is a right report, of which about a quarter is missing.
func rolled(d *dice) impl.Obs {
	o := bareObs(1 + d.below(99999))
	number := func(from, to, factor int64) float64 {
		if d.below(4) == 0 {
			return none
		}
		return float64((from+d.below(to-from+1))*factor) / 10
	}
	o.Temp, o.Dew, o.Press = number(-999, 999, 1), number(-999, 999, 1), number(5000, 14999, 1)
	o.Vis, o.Rain = number(0, 9999, 100), number(0, 9999, 1)
	switch d.below(8) {
	case 0, 1:
	case 2:
		o.Dir, o.Speed = 0, 0
	default:
		o.Dir, o.Speed = 1+d.below(36), float64(1+d.below(99))
	}
	if d.below(4) > 0 {
		o.Weather, o.Cloud = d.below(100), d.below(9)
	}
	return o
}

// unsaid is the report without what the group of that figure says.
func unsaid(o impl.Obs, group byte) impl.Obs {
	switch group {
	case '1':
		o.Temp = none
	case '2':
		o.Dew = none
	case '3':
		o.Press = none
	case '4':
		o.Dir, o.Speed = -1, none
	case '5':
		o.Vis = none
	case '6':
		o.Rain = none
	case '7':
		o.Weather, o.Cloud = -1, -1
	}
	return o
}

// Promise 5: with one group spoilt just that one is told, and the rest is kept.
func TestOneGroupSpoilt(t *testing.T) {
	d := dice(51)
	for range 3000 {
		o := rolled(&d)
		text := impl.ObsText(o)
		if back, faults, code := impl.ReadObs(text); !sameObs(back, o) || len(faults) != 0 || code != 0 {
			t.Fatalf("%q: %v, %v, %d", text, back, faults, code)
		}
		words := strings.Split(strings.TrimSuffix(text, "="), " ")
		for at := 1; at < len(words); at++ {
			word, place := words[at], 1+d.below(4)
			for _, spoilt := range []struct {
				word string
				code int64
			}{
				{word[:place] + "x" + word[place+1:], impl.FkChar}, {word[:place] + "/" + word[place+1:], impl.FkChar}, {word[:place] + "\xff" + word[place+1:], impl.FkChar},
				{word[:place] + word[place+1:], impl.FkLength}, {word[:place] + "7" + word[place:], impl.FkLength}, {word + "=", impl.FkLength},
				{"8" + word[1:], impl.FkGroup}, {"0" + word[1:], impl.FkGroup}, {"?" + word[1:], impl.FkGroup},
			} {
				given := slices.Clone(words)
				given[at] = spoilt.word
				line := strings.Join(given, " ") + "="
				back, faults, code := impl.ReadObs(line)
				if !sameObs(back, unsaid(o, word[0])) || !slices.Equal(faults, []impl.Fault{{At: int64(at), Code: spoilt.code}}) || code != 0 {
					t.Fatalf("%q: %v, %v, %d", line, back, faults, code)
				}
			}
		}
	}
}

// Promise 5: letters that look like figures change nothing but that they are told.
func TestLettersForFigures(t *testing.T) {
	d := dice(52)
	alike := map[byte]string{'0': "Oo", '1': "Il"}
	for range 5000 {
		o := rolled(&d)
		text := []byte(impl.ObsText(o))
		var told []impl.Fault
		for i := 5; i < len(text); i++ {
			letters := alike[text[i]]
			if letters == "" || d.below(3) > 0 {
				continue
			}
			text[i] = letters[d.below(2)]
			if at := int64(i / 6); len(told) == 0 || told[len(told)-1].At != at {
				told = append(told, impl.Fault{At: at, Code: impl.FkRepaired})
			}
		}
		if back, faults, code := impl.ReadObs(string(text)); !sameObs(back, o) || !slices.Equal(faults, told) || code != 0 {
			t.Fatalf("%q: %v, %v, %d", text, back, faults, code)
		}
	}
}

// readBySteps reads a report as the document's words go, by a list of what can be written.
func readBySteps(text string, known map[byte]map[string]heard) (impl.Obs, []impl.Fault, int64) {
	if text == "" || text[len(text)-1] != '=' {
		return impl.Obs{}, nil, 1
	}
	var words []string
	for _, w := range strings.Split(text[:len(text)-1], " ") {
		if w != "" {
			words = append(words, w)
		}
	}
	if len(words) == 0 || len(words) > 100 {
		return impl.Obs{}, nil, 2
	}
	if len(words[0]) != 5 || strings.Trim(words[0], "0123456789") != "" || words[0] == "00000" {
		return impl.Obs{}, nil, 3
	}
	station := int64(0)
	fmt.Sscanf(words[0], "%d", &station)
	o, last := bareObs(station), byte('0')
	var faults []impl.Fault
	tell := func(at int, code int64) { faults = append(faults, impl.Fault{At: int64(at), Code: code}) }
	for at, w := range words {
		if at == 0 {
			continue
		}
		mended := strings.NewReplacer("O", "0", "o", "0", "I", "1", "l", "1").Replace(w)
		if mended != w {
			tell(at, 1)
		}
		switch {
		case len(mended) != 5:
			tell(at, 2)
		case known[mended[0]] == nil:
			tell(at, 3)
		case mended[0] <= last:
			tell(at, 4)
		case mended[1:] == "////":
			last = mended[0]
		case strings.Trim(mended[1:], "0123456789") != "":
			tell(at, 5)
		case known[mended[0]][mended[1:]] == nil:
			tell(at, 6)
		default:
			last = mended[0]
			known[last][mended[1:]](&o)
		}
	}
	return o, faults, 0
}

// rolledText has words that are right, nearly right, and wrong.
func rolledText(d *dice) string {
	ends := []string{"", "", "", "", "", " ", "  "}
	end := func() string { return ends[d.below(int64(len(ends)))] }
	stations := []string{"10384", "00001", "99999", "10384", "12345", "00000", "1O384", "1038"}
	text := end() + stations[d.below(int64(len(stations)))]
	for range d.below(9) {
		word := []byte{byte('0' + d.below(9)), byte('0' + d.below(5)), byte('0' + d.below(10)), byte('0' + d.below(10)), byte('0' + d.below(3))}
		if d.below(5) == 0 {
			copy(word[1:], "////")
		}
		for range d.below(3) {
			const odd = "OoIl/x01\xc3\n=-"
			word[d.below(5)] = odd[d.below(int64(len(odd)))]
		}
		switch d.below(12) {
		case 0:
			word = word[:d.below(5)]
		case 1:
			word = append(word, '0')
		}
		text += " " + end() + string(word)
	}
	if d.below(20) == 0 {
		return text
	}
	return text + end() + "="
}

func TestTextsStepByStep(t *testing.T) {
	known := hearing()
	d := dice(53)
	for range 40000 {
		text := rolledText(&d)
		want, told, wantCode := readBySteps(text, known)
		if o, faults, code := impl.ReadObs(text); !sameObs(o, want) || !slices.Equal(faults, told) || code != wantCode {
			t.Fatalf("%q: %v, %v, %d, not %v, %v, %d", text, o, faults, code, want, told, wantCode)
		}
	}
}
