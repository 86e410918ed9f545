package tests

import (
	"math"
	"math/big"
	"slices"
	"strconv"
	"strings"
	"testing"

	"loop.example/g00051/impl"
)

const (
	two40 = int64(1) << 40
	two42 = int64(1) << 42
	two60 = int64(1) << 60
)

func TestGridNumbers(t *testing.T) {
	if got := [...]int64{impl.MaxField, impl.PkArgs, impl.PkValue}; got != [...]int64{4096, 1, 2} {
		t.Error(got)
	}
}

func samePacked(a, b impl.Packed) bool {
	return a.Count == b.Count && a.Dec == b.Dec && a.Ref == b.Ref && a.Exp == b.Exp && a.Bits == b.Bits && slices.Equal(a.There, b.There) && slices.Equal(a.Codes, b.Codes)
}

func TestPackByHand(t *testing.T) {
	for _, c := range []struct {
		name   string
		values []float64
		bits   int64
		dec    int64
		want   impl.Packed
	}{
		{"none", nil, 1, 0, impl.Packed{Bits: 1}}, {"none, other ends", []float64{}, 24, 6, impl.Packed{Bits: 24, Dec: 6}}, {"none, the least dec", nil, 8, -3, impl.Packed{Bits: 8, Dec: -3}},
		{"one", []float64{7}, 1, 0, impl.Packed{Count: 1, Bits: 1, Ref: 7, Codes: []int64{0}}}, {"one below 0", []float64{-7.25}, 24, 2, impl.Packed{Count: 1, Bits: 24, Dec: 2, Ref: -725, Codes: []int64{0}}}, {"a nought below 0", []float64{below0}, 3, 0, impl.Packed{Count: 1, Bits: 3, Codes: []int64{0}}},
		{"all missing", []float64{none, payload}, 5, 1, impl.Packed{Count: 2, Bits: 5, Dec: 1, There: []byte{0, 0}}}, {"one missing", []float64{none, 3}, 5, 0, impl.Packed{Count: 2, Bits: 5, Ref: 3, There: []byte{0, 1}, Codes: []int64{0}}}, {"the last missing", []float64{4, 3, none}, 5, 0, impl.Packed{Count: 3, Bits: 5, Ref: 3, There: []byte{1, 1, 0}, Codes: []int64{1, 0}}},
		{"rounded by 8", []float64{1, none, 2.5, 1.7}, 2, 1, impl.Packed{Count: 4, Dec: 1, Bits: 2, Ref: 10, Exp: 3, There: []byte{1, 0, 1, 1}, Codes: []int64{0, 2, 1}}},
		{"just in the bits", []float64{0, 3, 1, 2}, 2, 0, impl.Packed{Count: 4, Bits: 2, Codes: []int64{0, 3, 1, 2}}}, {"one beyond", []float64{0, 4, 1, 2, 3}, 2, 0, impl.Packed{Count: 5, Bits: 2, Exp: 1, Codes: []int64{0, 2, 1, 1, 2}}},
		// 7 and 1 more by 2 is 4: the rounding comes up to 2 to the bits.
		{"rounded up to the bits", []float64{0, 7}, 2, 0, impl.Packed{Count: 2, Bits: 2, Exp: 2, Codes: []int64{0, 2}}}, {"just below it", []float64{0, 6}, 2, 0, impl.Packed{Count: 2, Bits: 2, Exp: 1, Codes: []int64{0, 3}}}, {"of one bit", []float64{0, 2, 1}, 1, 0, impl.Packed{Count: 3, Bits: 1, Exp: 1, Codes: []int64{0, 1, 1}}}, {"of one bit, rounded up", []float64{0, 3, 1}, 1, 0, impl.Packed{Count: 3, Bits: 1, Exp: 2, Codes: []int64{0, 1, 0}}},
		{"24 bits", []float64{0, 1<<24 - 1}, 24, 0, impl.Packed{Count: 2, Bits: 24, Codes: []int64{0, 1<<24 - 1}}}, {"24 bits and one beyond", []float64{0, 1 << 24}, 24, 0, impl.Packed{Count: 2, Bits: 24, Exp: 1, Codes: []int64{0, 1 << 23}}}, {"24 bits rounded up", []float64{0, 1<<25 - 1}, 24, 0, impl.Packed{Count: 2, Bits: 24, Exp: 2, Codes: []int64{0, 1 << 23}}},
		{"thousands", []float64{-5000, 2500, 1500, 999}, 8, -3, impl.Packed{Count: 4, Bits: 8, Dec: -3, Ref: -5, Codes: []int64{0, 7, 7, 6}}}, {"millionths", []float64{0.5, 0.000001, 0.25}, 20, 6, impl.Packed{Count: 3, Bits: 20, Dec: 6, Ref: 1, Codes: []int64{499999, 0, 249999}}},
		{"the greatest numbers", []float64{float64(two40), float64(-two40)}, 1, 0, impl.Packed{Count: 2, Bits: 1, Ref: -two40, Exp: 41, Codes: []int64{1, 0}}}, {"the greatest number", []float64{float64(two40)}, 1, 0, impl.Packed{Count: 1, Bits: 1, Ref: two40, Codes: []int64{0}}}, {"rounded to the greatest", []float64{float64(two40) + 0.5, float64(-two40) - 0.5}, 24, 0, impl.Packed{Count: 2, Bits: 24, Ref: -two40, Exp: 18, Codes: []int64{1 << 23, 0}}},
		{"the greatest number, in thousands", []float64{float64(two40) * 1000}, 1, -3, impl.Packed{Count: 1, Bits: 1, Dec: -3, Ref: two40, Codes: []int64{0}}},
	} {
		if got, code := impl.Pack(c.values, c.bits, c.dec); code != 0 || !samePacked(got, c.want) {
			t.Errorf("%s: %v, %d, not %v", c.name, got, code, c.want)
		}
	}
}

func TestPackRefuses(t *testing.T) {
	beyond := float64(two40) + 1
	for _, c := range []struct {
		name      string
		values    []float64
		bits, dec int64
		code      int64
	}{
		{"bits 0", nil, 0, 0, impl.PkArgs}, {"bits 25", nil, 25, 0, impl.PkArgs}, {"bits below 0", []float64{1}, -1, 0, impl.PkArgs}, {"the least bits", nil, math.MinInt64, 0, impl.PkArgs}, {"the greatest bits", nil, math.MaxInt64, 0, impl.PkArgs},
		{"dec -4", nil, 8, -4, impl.PkArgs}, {"dec 7", nil, 8, 7, impl.PkArgs}, {"the least dec", []float64{1}, 8, math.MinInt64, impl.PkArgs}, {"the greatest dec", []float64{1}, 8, math.MaxInt64, impl.PkArgs},
		{"4097", make([]float64, 4097), 8, 0, impl.PkArgs}, {"4097 missing", times(4097, none), 8, 0, impl.PkArgs}, {"4097 wrong ones", times(4097, high), 8, 0, impl.PkArgs}, {"wrong values and bits", []float64{high}, 0, 0, impl.PkArgs},
		{"high", []float64{high}, 8, 0, impl.PkValue}, {"low", []float64{1, low}, 8, 0, impl.PkValue}, {"most", []float64{most}, 8, 0, impl.PkValue}, {"most, multiplied", []float64{most}, 8, 6, impl.PkValue}, {"most, divided", []float64{most}, 8, -3, impl.PkValue},
		{"one beyond", []float64{beyond}, 8, 0, impl.PkValue}, {"one beyond, below 0", []float64{-beyond}, 8, 0, impl.PkValue}, {"one beyond at the end", []float64{none, 1, 2, beyond}, 8, 0, impl.PkValue}, {"just beyond", []float64{math.Nextafter(float64(two40)+0.5, high)}, 8, 0, impl.PkValue}, {"one beyond in tenths", []float64{beyond / 10}, 8, 1, impl.PkValue}, {"one beyond in tens", []float64{beyond * 10}, 8, -1, impl.PkValue}, {"no Nearest", []float64{1e15 + 1}, 8, 0, impl.PkValue}, {"no Nearest, below 0", []float64{-2e15}, 8, 0, impl.PkValue},
	} {
		if got, code := impl.Pack(c.values, c.bits, c.dec); code != c.code || !samePacked(got, impl.Packed{}) {
			t.Errorf("%s: %v, %d", c.name, got, code)
		}
	}
	for _, c := range [][2]int64{{1, -3}, {24, 6}, {1, 6}, {24, -3}} {
		if got, code := impl.Pack(make([]float64, 4096), c[0], c[1]); code != 0 || got.Count != 4096 || got.Bits != c[0] || got.Dec != c[1] || len(got.Codes) != 4096 {
			t.Error("4096", c, got.Count, code)
		}
	}
}

// packBySteps takes the codes from quotients of big numbers.
func packBySteps(values []float64, bits, dec int64) impl.Packed {
	p := impl.Packed{Count: int64(len(values)), Dec: dec, Bits: bits}
	var wholes []int64
	for _, x := range values {
		there := byte(0)
		if x == x {
			there = 1
			if dec < 0 {
				x /= tens(dec)
			} else {
				x *= tens(dec)
			}
			wholes = append(wholes, int64(math.RoundToEven(x)))
		}
		p.There = append(p.There, there)
	}
	if len(wholes) == len(values) {
		p.There = nil
	}
	if len(wholes) == 0 {
		return p
	}
	p.Ref = slices.Min(wholes)
	for ; ; p.Exp++ {
		p.Codes = nil
		step := new(big.Rat).SetInt(new(big.Int).Lsh(big.NewInt(1), uint(p.Exp)))
		for _, n := range wholes {
			q := new(big.Rat).Quo(new(big.Rat).SetInt64(n-p.Ref), step)
			if p.Exp > 0 {
				q.Add(q, big.NewRat(1, 2))
			}
			p.Codes = append(p.Codes, new(big.Int).Div(q.Num(), q.Denom()).Int64())
		}
		if slices.Max(p.Codes) < 1<<bits {
			return p
		}
	}
}

func rolledField(d *dice, dec int64) []float64 {
	values := make([]float64, d.below(40))
	size := int64(1) << (1 + d.below(40))
	gaps := d.below(2) == 0
	for i := range values {
		x := float64(d.below(2*size+1)-size) + float64(d.below(5))/4 - 0.5
		if dec < 0 {
			x *= tens(dec)
		} else {
			x /= tens(dec)
		}
		values[i] = x
		if gaps && d.below(6) == 0 {
			values[i] = none
		}
	}
	return values
}

// Promise 8: a packed field comes back within half of a step, missing where it was.
func TestPackedComesBack(t *testing.T) {
	d := dice(801)
	coarse := 0
	for range 4000 {
		bits, dec := 1+d.below(24), d.below(10)-3
		values := rolledField(&d, dec)
		p, code := impl.Pack(values, bits, dec)
		want := packBySteps(values, bits, dec)
		if code != 0 || !samePacked(p, want) {
			t.Fatalf("Pack(%v, %d, %d) = %v, %d, not %v", values, bits, dec, p, code, want)
		}
		back, ok := impl.Unpack(p)
		if !ok || len(back) != len(values) {
			t.Fatalf("Unpack(%v) = %v, %v", p, back, ok)
		}
		at := 0
		for i, x := range values {
			if math.IsNaN(x) != math.IsNaN(back[i]) {
				t.Fatalf("%v at %d: %v", values, i, back[i])
			}
			if x != x {
				continue
			}
			n := p.Ref + p.Codes[at]<<p.Exp
			at++
			near := math.RoundToEven(x * tens(dec))
			y := float64(n) / tens(dec)
			if dec < 0 {
				near, y = math.RoundToEven(x/tens(dec)), float64(n)*tens(dec)
			}
			if !sameFloat(back[i], y) || p.Exp == 0 && int64(near) != n || p.Exp > 0 && math.Abs(near-float64(n)) > float64(int64(1)<<(p.Exp-1)) {
				t.Fatalf("%v at %d: %v of %v", values, i, back[i], p)
			}
		}
		if p.Exp > 0 {
			coarse++
		}
	}
	if coarse < 500 {
		t.Error("with a step:", coarse)
	}
}

func TestUnpackByHand(t *testing.T) {
	for _, c := range []struct {
		name string
		p    impl.Packed
		want []float64
	}{
		{"none", impl.Packed{Bits: 1}, nil}, {"none, other ends", impl.Packed{Bits: 24, Dec: 6, Exp: 41, Ref: two40}, nil}, {"none, the least", impl.Packed{Bits: 24, Dec: -3, Ref: -two40}, nil},
		{"one", impl.Packed{Count: 1, Bits: 1, Ref: 7, Codes: []int64{0}}, []float64{7}}, {"in tenths", impl.Packed{Count: 2, Bits: 2, Ref: 10, Dec: 1, Exp: 3, Codes: []int64{2, 1}}, []float64{2.6, 1.8}}, {"in thousands", impl.Packed{Count: 1, Bits: 8, Dec: -3, Ref: -5, Codes: []int64{3}}, []float64{-2000}}, {"in millionths", impl.Packed{Count: 1, Bits: 8, Dec: 6, Ref: -7, Codes: []int64{0}}, []float64{-0.000007}},
		{"missing ones", impl.Packed{Count: 3, Bits: 8, There: []byte{0, 1, 0}, Codes: []int64{9}}, []float64{none, 9, none}}, {"all missing", impl.Packed{Count: 2, Bits: 8, Ref: 5, There: []byte{0, 0}}, []float64{none, none}}, {"no value 0", impl.Packed{Count: 1, Bits: 8, Ref: -9, Codes: []int64{9}}, []float64{0}},
		{"the greatest code", impl.Packed{Count: 1, Bits: 24, Codes: []int64{1<<24 - 1}}, []float64{1<<24 - 1}}, {"Exp 41", impl.Packed{Count: 2, Bits: 24, Exp: 41, Ref: two40, Codes: []int64{2, 1}}, []float64{float64(two40 + two42), float64(two40 + two42/2)}}, {"Exp 18", impl.Packed{Count: 1, Bits: 24, Exp: 18, Codes: []int64{1<<24 - 1}}, []float64{float64(two42 - 1<<18)}}, {"Exp 19", impl.Packed{Count: 1, Bits: 24, Exp: 19, Ref: -two40, Codes: []int64{1 << 23}}, []float64{float64(two42 - two40)}},
		// It need not be what Pack makes.
		{"an Exp that need not be", impl.Packed{Count: 1, Bits: 8, Exp: 3, Ref: 5, Codes: []int64{4}}, []float64{37}},
	} {
		if got, ok := impl.Unpack(c.p); !ok || !sameList(got, c.want) {
			t.Errorf("%s: %v, %v", c.name, got, ok)
		}
	}
	p := impl.Packed{Count: 4096, Bits: 3, Codes: times[int64](4096, 7)}
	if got, ok := impl.Unpack(p); !ok || !sameList(got, times(4096, 7.0)) {
		t.Error("4096", len(got), ok)
	}
	p.There = append(times[byte](4095, 1), 0)
	p.Codes = p.Codes[1:]
	if got, ok := impl.Unpack(p); !ok || !sameList(got, append(times(4095, 7.0), none)) {
		t.Error("4096, one missing", len(got), ok)
	}
}

func TestUnpackRefuses(t *testing.T) {
	// Each is right but for one thing.
	right := func() impl.Packed {
		return impl.Packed{Count: 4, Dec: 1, Ref: 10, Exp: 3, Bits: 2, There: []byte{1, 0, 1, 1}, Codes: []int64{0, 2, 1}}
	}
	if got, ok := impl.Unpack(right()); !ok || len(got) != 4 {
		t.Fatal(got, ok)
	}
	for name, spoil := range map[string]func(p *impl.Packed){
		"Count below 0": func(p *impl.Packed) { p.Count, p.There, p.Codes = -1, nil, nil }, "the least Count": func(p *impl.Packed) { p.Count = math.MinInt64 }, "the greatest Count": func(p *impl.Packed) { p.Count = math.MaxInt64 }, "Count 3": func(p *impl.Packed) { p.Count = 3 }, "Count 5": func(p *impl.Packed) { p.Count = 5 }, "Count 0": func(p *impl.Packed) { p.Count = 0 }, "4097": func(p *impl.Packed) { p.Count, p.There, p.Codes = 4097, nil, make([]int64, 4097) }, "4097 with There": func(p *impl.Packed) { p.Count, p.There, p.Codes = 4097, make([]byte, 4097), nil },
		"Dec -4": func(p *impl.Packed) { p.Dec = -4 }, "Dec 7": func(p *impl.Packed) { p.Dec = 7 }, "Bits 25": func(p *impl.Packed) { p.Bits = 25 }, "the least Bits": func(p *impl.Packed) { p.Bits = math.MinInt64 }, "Bits 64": func(p *impl.Packed) { p.Bits = 64 }, "Bits 0": func(p *impl.Packed) { p.Bits, p.Codes = 0, []int64{0, 0, 0} },
		"Exp -1": func(p *impl.Packed) { p.Exp = -1 }, "Exp 42": func(p *impl.Packed) { p.Exp, p.Codes = 42, []int64{0, 1, 0} }, "the greatest Exp": func(p *impl.Packed) { p.Exp, p.Codes = math.MaxInt64, []int64{0, 0, 0} }, "the least Exp": func(p *impl.Packed) { p.Exp, p.Codes = math.MinInt64, []int64{0, 0, 0} }, "Ref too high": func(p *impl.Packed) { p.Ref = two40 + 1 }, "Ref too low": func(p *impl.Packed) { p.Ref = -two40 - 1 }, "the greatest Ref": func(p *impl.Packed) { p.Ref = math.MaxInt64 }, "the least Ref": func(p *impl.Packed) { p.Ref = math.MinInt64 },
		"There without a 0": func(p *impl.Packed) { p.There, p.Codes = []byte{1, 1, 1, 1}, []int64{0, 2, 1, 0} }, "There with a 2": func(p *impl.Packed) { p.There[0] = 2 }, "a 2 for the 0": func(p *impl.Packed) { p.There[1] = 2 }, "a 2 and a 0": func(p *impl.Packed) { p.There, p.Codes = []byte{2, 0, 1, 1}, []int64{0, 2} }, "a 255": func(p *impl.Packed) { p.There[3] = 255 }, "There too short": func(p *impl.Packed) { p.There = []byte{1, 0, 1} }, "There too long": func(p *impl.Packed) { p.There = []byte{1, 0, 1, 1, 0} }, "There too long by a 1": func(p *impl.Packed) { p.There, p.Codes = []byte{1, 0, 1, 1, 1}, []int64{0, 2, 1, 1} },
		"There of none": func(p *impl.Packed) { p.Count, p.There, p.Codes = 0, []byte{0}, nil }, "no There": func(p *impl.Packed) { p.There = nil }, "an empty There": func(p *impl.Packed) { p.There = []byte{} }, "Codes too few": func(p *impl.Packed) { p.Codes = []int64{0, 2} }, "no Codes": func(p *impl.Packed) { p.Codes = nil }, "Codes too many": func(p *impl.Packed) { p.Codes = []int64{0, 2, 1, 0} }, "Codes too many without There": func(p *impl.Packed) { p.There, p.Codes = nil, []int64{0, 2, 1, 0, 1} }, "a Code of none": func(p *impl.Packed) { p.Count, p.There, p.Codes = 0, nil, []int64{0} },
		"a Code below 0": func(p *impl.Packed) { p.Codes[1] = -1 }, "a Code too great": func(p *impl.Packed) { p.Codes[1] = 4 }, "the last Code too great": func(p *impl.Packed) { p.Codes[2] = 4 }, "the greatest Code": func(p *impl.Packed) { p.Codes[0] = math.MaxInt64 }, "the least Code": func(p *impl.Packed) { p.Codes[0] = math.MinInt64 },
		"above 2 to the 42": func(p *impl.Packed) { p.Exp, p.Codes = 41, []int64{0, 1, 3} }, "above it by a step": func(p *impl.Packed) { p.Bits, p.Exp, p.Codes = 24, 19, []int64{0, 1, 1<<23 + 1} }, "that would wrap": func(p *impl.Packed) { p.Bits, p.Exp, p.Codes = 24, 41, []int64{0, 1, 1 << 23} },
	} {
		p := right()
		spoil(&p)
		if got, ok := impl.Unpack(p); ok || len(got) != 0 {
			t.Errorf("%s: %v, %v", name, got, ok)
		}
	}
}

// packRunsBySteps writes the groups as a text of bits.
func packRunsBySteps(list []int64) []byte {
	text := bitText(int64(len(list)), 16)
	ahead := int64(0)
	for at := 0; at < len(list); at += 16 {
		var group []int64
		for _, n := range list[at:min(at+16, len(list))] {
			group = append(group, n-ahead)
			ahead = n
		}
		lowest := slices.Min(group)
		wide := int64(0)
		for slices.ContainsFunc(group, func(d int64) bool { return d-lowest >= 1<<wide }) {
			wide++
		}
		text += bitText(lowest+two42, 48) + bitText(wide, 8)
		for _, d := range group {
			text += bitText(d-lowest, wide)
		}
		for len(text)%8 != 0 {
			text += "0"
		}
	}
	return bytesOf(text)
}

func rolledRun(d *dice, size int64) []int64 {
	list := make([]int64, size)
	span := int64(1) << d.below(41)
	n := d.below(2*two40+1) - two40
	for i := range list {
		switch d.below(30) {
		case 0:
			n = two40 * (d.below(3) - 1)
		case 1:
			span = int64(1) << d.below(41)
		}
		n = max(-two40, min(two40, n+d.below(2*span+1)-span))
		list[i] = n
	}
	return list
}

func runSizes() []int64 {
	return []int64{0, 1, 2, 3, 4, 5, 7, 8, 15, 16, 17, 31, 32, 33, 48, 49, 100, 1000, 4095, 4096}
}

// Promise 8: runs come back just as they were.
func TestRunsComeBack(t *testing.T) {
	d := dice(802)
	for _, size := range runSizes() {
		for range 1 + 2000/(size+1) {
			list := rolledRun(&d, size)
			data, ok := impl.PackRuns(list)
			if !ok || size <= 100 && !slices.Equal(data, packRunsBySteps(list)) {
				t.Fatalf("PackRuns(%v) = %v, %v", list, data, ok)
			}
			if back, ok := impl.ReadRuns(data); !ok || !slices.Equal(back, list) {
				t.Fatalf("ReadRuns(%v) = %v, %v, not %v", data, back, ok, list)
			}
		}
	}
}

func TestPackRunsByHand(t *testing.T) {
	head := func(least, wide int64) string { return bitText(least+two42, 48) + bitText(wide, 8) }
	for _, c := range []struct {
		name string
		list []int64
		bits string
	}{
		{"none", nil, bitText(0, 16)}, {"one", []int64{5}, bitText(1, 16) + head(5, 0)}, {"a nought", []int64{0}, bitText(1, 16) + head(0, 0)}, {"below 0", []int64{-1}, bitText(1, 16) + head(-1, 0)}, {"three", []int64{5, 6, 6}, bitText(3, 16) + head(0, 3) + "101" + "001" + "000"},
		{"a rise", []int64{2, 4, 6, 8}, bitText(4, 16) + head(2, 0)}, {"a fall", []int64{-2, -4, -7}, bitText(3, 16) + head(-3, 1) + "110"}, {"15 alike", times[int64](15, 0), bitText(15, 16) + head(0, 0)}, {"16 alike", times[int64](16, 0), bitText(16, 16) + head(0, 0)}, {"17 alike", times[int64](17, 0), bitText(17, 16) + head(0, 0) + head(0, 0)},
		{"16 of 7", times[int64](16, 7), bitText(16, 16) + head(0, 3) + "111" + strings.Repeat("000", 15)}, {"17 of 7", times[int64](17, 7), bitText(17, 16) + head(0, 3) + "111" + strings.Repeat("000", 15) + head(0, 0)}, {"17, the last a step", append(times[int64](16, 0), 9), bitText(17, 16) + head(0, 0) + head(9, 0)},
		{"the greatest", []int64{two40}, bitText(1, 16) + head(two40, 0)}, {"the least", []int64{-two40}, bitText(1, 16) + head(-two40, 0)}, {"the greatest W", []int64{-two40, two40, -two40}, bitText(3, 16) + head(-2*two40, 43) + bitText(two40, 43) + bitText(two42, 43) + bitText(0, 43)}, {"W 42", []int64{0, two40, -two40 + 1}, bitText(3, 16) + head(-2*two40+1, 42) + bitText(2*two40-1, 42) + bitText(3*two40-1, 42) + bitText(0, 42)},
		{"8 bits", []int64{0, 255, 255}, bitText(3, 16) + head(0, 8) + bitText(0, 8) + bitText(255, 8) + bitText(0, 8)}, {"9 bits", []int64{0, 256}, bitText(2, 16) + head(0, 9) + bitText(0, 9) + bitText(256, 9)},
	} {
		data, ok := impl.PackRuns(c.list)
		if !ok || !slices.Equal(data, bytesOf(c.bits)) {
			t.Errorf("%s: %s, %v, not %s", c.name, bitsText(data), ok, c.bits)
		}
		if back, ok := impl.ReadRuns(bytesOf(c.bits)); !ok || !slices.Equal(back, c.list) {
			t.Errorf("%s: read %v, %v", c.name, back, ok)
		}
	}
	long := make([]int64, 4096)
	long[4095] = -3
	data, ok := impl.PackRuns(long)
	if !ok || len(data) != 2+256*7+2*16/8 || data[0] != 0x10 || data[1] != 0 {
		t.Error("4096", len(data), ok)
	}
}

func TestPackRunsRefuses(t *testing.T) {
	for name, list := range map[string][]int64{
		"4097": make([]int64, 4097), "one beyond": {two40 + 1}, "one beyond, below 0": {-two40 - 1}, "at the end": {1, 2, 3, two40 + 1}, "in a later group": append(make([]int64, 20), -two40-1), "the greatest": {math.MaxInt64}, "the least": {math.MinInt64}, "both": {math.MinInt64, math.MaxInt64},
	} {
		if data, ok := impl.PackRuns(list); ok || len(data) != 0 {
			t.Errorf("%s: %v, %v", name, data, ok)
		}
		for steps := int64(1); steps <= 12; steps++ {
			if got, ok := impl.Wave(list, steps); ok || len(got) != 0 {
				t.Errorf("%s: waves %v, %v", name, got, ok)
			}
		}
	}
}

func TestReadRunsRefuses(t *testing.T) {
	head := func(least, wide int64) string { return bitText(least+two42, 48) + bitText(wide, 8) }
	three := bitText(3, 16) + head(0, 3) + "101" + "001" + "000"
	for name, bits := range map[string]string{
		"nothing": "", "one byte": bitText(0, 8), "a byte behind none": bitText(0, 24), "a 1 behind none": bitText(0, 16) + "00000001", "a size without a group": bitText(1, 16), "half a least": bitText(1, 16) + bitText(0, 24), "no W": bitText(1, 16) + bitText(two42, 48), "no differences": bitText(3, 16) + head(0, 3), "too few": bitText(3, 16) + head(0, 3) + "10100100", "too few by far": bitText(16, 16) + head(0, 43) + bitText(1, 43),
		"a 1 in the fill": three + "0000001", "a 1 at the fill's beginning": three + "1", "a byte left": three + "0000000" + "00000000", "a group left": three + "0000000" + head(0, 0), "W greater than it must be": bitText(3, 16) + head(0, 4) + "0101" + "0001" + "0000", "W for all alike": bitText(2, 16) + head(4, 1) + "00", "the least not reached": bitText(3, 16) + head(-1, 3) + "110" + "010" + "001", "neither": bitText(2, 16) + head(0, 2) + "0101",
		"W 44": bitText(1, 16) + head(0, 44) + bitText(0, 44), "W 64": bitText(1, 16) + head(0, 64) + bitText(0, 64), "W 255": bitText(1, 16) + head(0, 255) + bitText(0, 255), "W 255, all 1": bitText(2, 16) + head(0, 255) + strings.Repeat("1", 510), "W 64, two that wrap": bitText(2, 16) + head(0, 64) + strings.Repeat("1", 64) + bitText(1, 64),
		"4097": bitText(4097, 16) + strings.Repeat(head(0, 0), 257), "65535": bitText(65535, 16) + strings.Repeat(head(0, 0), 4096), "one beyond": bitText(1, 16) + head(two40+1, 0), "one beyond, below 0": bitText(1, 16) + head(-two40-1, 0), "beyond by the second": bitText(2, 16) + head(two40, 0), "beyond, and back": bitText(2, 16) + head(-two40, 42) + bitText(2*two40+1, 42) + bitText(0, 42), "the least of all bits": bitText(1, 16) + bitText(0, 56), "all bits": bitText(1, 16) + strings.Repeat("1", 48) + bitText(0, 8),
		"17 in one group": bitText(17, 16) + head(0, 0), "a group too many": bitText(16, 16) + head(0, 0) + head(0, 0),
	} {
		if got, ok := impl.ReadRuns(bytesOf(bits)); ok || len(got) != 0 {
			t.Errorf("%s: %v, %v", name, got, ok)
		}
	}
}

// readRunsBySteps tells whether bytes are runs that packRunsBySteps would write.
func readRunsBySteps(data []byte) ([]int64, bool) {
	text := bitsText(data)
	take := func(width int) int64 {
		n, _ := strconv.ParseInt(text[:width], 2, 64)
		text = text[width:]
		return n
	}
	if len(text) < 16 {
		return nil, false
	}
	size := int(take(16))
	var list []int64
	for ahead := int64(0); len(list) < size; {
		if len(text) < 56 {
			return nil, false
		}
		lowest, wide := take(48)-two42, int(take(8))
		count := min(16, size-len(list))
		if wide > 43 || len(text) < (count*wide+7)/8*8 {
			return nil, false
		}
		for range count {
			ahead += lowest + take(wide)
			if ahead < -two40 || ahead > two40 {
				return nil, false
			}
			list = append(list, ahead)
		}
		text = text[len(text)%8:]
	}
	return list, size <= 4096 && slices.Equal(packRunsBySteps(list), data)
}

func TestSpoiltRuns(t *testing.T) {
	d := dice(803)
	taken := 0
	for range 600 {
		list := rolledRun(&d, d.below(40))
		data, _ := impl.PackRuns(list)
		for _, other := range othersThan(data, &d) {
			got, ok := impl.ReadRuns(other)
			if want, right := readRunsBySteps(other); ok != right || ok && !slices.Equal(got, want) || !ok && len(got) != 0 {
				t.Fatalf("%v: %v, %v, not %v, %v", other, got, ok, want, right)
			}
			if !ok {
				continue
			}
			taken++
			if again, _ := impl.PackRuns(got); !slices.Equal(again, other) || slices.Equal(got, list) {
				t.Fatalf("%v: %v, packed %v", other, got, again)
			}
		}
	}
	if taken < 1000 {
		t.Error("taken:", taken)
	}
}

func TestWaveByHand(t *testing.T) {
	for _, c := range []struct {
		list  []int64
		steps int64
		want  []int64
	}{
		{nil, 1, nil}, {nil, 12, nil}, {[]int64{}, 3, nil}, {[]int64{7}, 1, []int64{7}}, {[]int64{-7}, 12, []int64{-7}}, {[]int64{3, 8}, 1, []int64{5, 5}}, {[]int64{8, 3}, 1, []int64{5, -5}}, {[]int64{3, 4}, 1, []int64{3, 1}}, {[]int64{4, 3}, 1, []int64{3, -1}}, {[]int64{-4, -3}, 1, []int64{-4, 1}}, {[]int64{-3, -4}, 1, []int64{-4, -1}}, {[]int64{3, 8}, 12, []int64{5, 5}}, {[]int64{2, -5}, 1, []int64{-2, -7}},
		{[]int64{1, 4, 7}, 1, []int64{2, 7, 3}}, {[]int64{1, 4, 7}, 2, []int64{4, 5, 3}}, {[]int64{1, 4, 7}, 3, []int64{4, 5, 3}}, {[]int64{1, 4, 7, 2, 9}, 1, []int64{2, 4, 9, 3, -5}}, {[]int64{1, 4, 7, 2, 9}, 2, []int64{3, 9, 2, 3, -5}}, {[]int64{1, 4, 7, 2, 9}, 3, []int64{6, 6, 2, 3, -5}}, {[]int64{1, 4, 7, 2, 9}, 12, []int64{6, 6, 2, 3, -5}}, {[]int64{0, 2, 4, 6}, 2, []int64{3, 4, 2, 2}},
		{[]int64{two40, -two40}, 1, []int64{0, -2 * two40}}, {[]int64{-two40, two40}, 1, []int64{0, 2 * two40}}, {[]int64{two40, two40 - 1}, 1, []int64{two40 - 1, -1}},
	} {
		got, ok := impl.Wave(c.list, c.steps)
		if !ok || !slices.Equal(got, c.want) {
			t.Errorf("Wave(%v, %d) = %v, %v, not %v", c.list, c.steps, got, ok, c.want)
		}
		if back, ok := impl.Unwave(c.want, c.steps); !ok || !slices.Equal(back, c.list) {
			t.Errorf("Unwave(%v, %d) = %v, %v", c.want, c.steps, back, ok)
		}
	}
	for _, steps := range []int64{0, 13, -1, 14, math.MaxInt64, math.MinInt64} {
		for _, list := range [][]int64{nil, {5}, {1, 2, 3}} {
			if got, ok := impl.Wave(list, steps); ok || len(got) != 0 {
				t.Errorf("Wave(%v, %d) = %v, %v", list, steps, got, ok)
			}
			if got, ok := impl.Unwave(list, steps); ok || len(got) != 0 {
				t.Errorf("Unwave(%v, %d) = %v, %v", list, steps, got, ok)
			}
		}
	}
}

// waveBySteps takes the means and the differences as lists of their own.
func waveBySteps(list []int64, steps int64) []int64 {
	if steps == 0 || len(list) < 2 {
		return list
	}
	var means, differences []int64
	for i := 0; i+1 < len(list); i += 2 {
		means = append(means, list[i]+int64(math.Floor(float64(list[i+1]-list[i])/2)))
		differences = append(differences, list[i+1]-list[i])
	}
	if len(list)%2 == 1 {
		means = append(means, list[len(list)-1])
	}
	return append(waveBySteps(means, steps-1), differences...)
}

// Promise 8: wavelets come back just as they were.
func TestWavesComeBack(t *testing.T) {
	d := dice(804)
	for size := range int64(80) {
		for steps := int64(1); steps <= 12; steps++ {
			checkWave(t, rolledRun(&d, size), steps)
		}
	}
	for _, size := range []int64{100, 255, 256, 257, 1023, 4095, 4096} {
		for steps := int64(1); steps <= 12; steps++ {
			checkWave(t, rolledRun(&d, size), steps)
		}
	}
	checkWave(t, times(2048, two40, -two40), 12)
	checkWave(t, times(4096, -two40), 12)
}

func checkWave(t *testing.T, list []int64, steps int64) {
	t.Helper()
	packed, ok := impl.Wave(list, steps)
	if !ok || !slices.Equal(packed, waveBySteps(slices.Clone(list), steps)) {
		t.Fatalf("Wave(%v, %d) = %v, %v", list, steps, packed, ok)
	}
	if back, ok := impl.Unwave(packed, steps); !ok || !slices.Equal(back, list) {
		t.Fatalf("Unwave(%v, %d) = %v, %v, not %v", packed, steps, back, ok, list)
	}
}

// unwaveBySteps works with big numbers, so that nothing wraps.
func unwaveBySteps(list []*big.Int, steps int64) []*big.Int {
	if steps == 0 || len(list) < 2 {
		return list
	}
	means := (len(list) + 1) / 2
	front := unwaveBySteps(list[:means], steps-1)
	var out []*big.Int
	for i, d := range list[means:] {
		half := new(big.Int).Rsh(d, 1)
		a := new(big.Int).Sub(front[i], half)
		out = append(out, a, new(big.Int).Add(a, d))
	}
	if len(list)%2 == 1 {
		out = append(out, front[means-1])
	}
	return out
}

func checkUnwave(t *testing.T, list []int64, steps int64) bool {
	t.Helper()
	var given []*big.Int
	for _, n := range list {
		given = append(given, big.NewInt(n))
	}
	limit := big.NewInt(two60)
	right := !slices.ContainsFunc(given, func(n *big.Int) bool { return n.CmpAbs(limit) > 0 })
	var want []int64
	// A number that is too great on the way leaves one that is too great at the end.
	for _, n := range unwaveBySteps(given, steps) {
		right = right && n.CmpAbs(limit) <= 0
		want = append(want, n.Int64())
	}
	if !right {
		want = nil
	}
	if got, ok := impl.Unwave(list, steps); ok != right || !slices.Equal(got, want) {
		t.Fatalf("Unwave(%v, %d) = %v, %v, not %v, %v", list, steps, got, ok, want, right)
	}
	return right
}

func TestUnwaveAtItsLimits(t *testing.T) {
	for _, c := range []struct {
		list  []int64
		steps int64
		right bool
	}{
		{[]int64{two60}, 1, true}, {[]int64{-two60}, 12, true}, {[]int64{two60 + 1}, 1, false}, {[]int64{-two60 - 1}, 1, false}, {[]int64{1, 2, two60 + 1}, 1, false}, {[]int64{math.MaxInt64}, 1, false}, {[]int64{math.MinInt64, 0}, 1, false}, {[]int64{0, math.MinInt64}, 3, false},
		{[]int64{two60, 0}, 1, true}, {[]int64{two60, 1}, 1, false}, {[]int64{two60, -1}, 1, false}, {[]int64{two60 - 1, 1}, 1, true}, {[]int64{two60 - 1, 2}, 1, true}, {[]int64{two60 - 1, -1}, 1, true}, {[]int64{two60 - 1, -2}, 1, true}, {[]int64{two60 - 1, 3}, 1, false}, {[]int64{two60 - 1, -3}, 1, false}, {[]int64{-two60, 0}, 1, true}, {[]int64{-two60, 1}, 1, true}, {[]int64{-two60, -1}, 1, true}, {[]int64{-two60, 2}, 1, false}, {[]int64{-two60, -2}, 1, false},
		{[]int64{0, two60}, 1, true}, {[]int64{0, -two60}, 1, true}, {[]int64{two60, two60}, 1, false}, {[]int64{-two60, -two60}, 1, false}, {[]int64{two60 / 2, two60}, 1, true}, {[]int64{two60/2 + 1, two60}, 1, false}, {[]int64{-two60 / 2, -two60}, 1, true}, {[]int64{-two60/2 - 1, -two60}, 1, false},
		// On the way: the means of a step are the answer of another.
		{[]int64{two60, 2, 0, 0}, 2, false}, {[]int64{two60, 2, 4, 4}, 2, false}, {[]int64{two60, 2, 0, 0}, 1, true}, {[]int64{two60 - 1, 2, 0, 0}, 2, true}, {[]int64{two60 - 1, 2, 0, 1}, 2, false}, {[]int64{two60, 1, 0, 0, 0, 0, 0, 0}, 3, false}, {[]int64{two60, 0, 0, 0, 0, 0, 0, 0}, 3, true}, {[]int64{two60 / 2, two60, two60}, 2, true}, {[]int64{two60/2 + 1, two60, 0}, 2, false}, {[]int64{two60/2 + 1, two60, 0}, 1, true}, {[]int64{0, two60, two60}, 2, true}, {[]int64{5, two60, 5}, 1, true},
	} {
		if checkUnwave(t, c.list, c.steps) != c.right {
			t.Errorf("%v, %d", c.list, c.steps)
		}
	}
	if got, ok := impl.Unwave(make([]int64, 4097), 1); ok || len(got) != 0 {
		t.Error("4097", ok)
	}
	d := dice(805)
	count := map[bool]int{}
	for range 6000 {
		list := make([]int64, d.below(20))
		size := two60 >> d.below(2)
		for i := range list {
			list[i] = d.below(2*size+1) - size
			if d.below(3) == 0 {
				list[i] %= 4
			}
		}
		count[checkUnwave(t, list, 1+d.below(12))]++
	}
	if count[true] < 1000 || count[false] < 1000 {
		t.Error(count)
	}
}

// Wavelets need not come from a Wave: taken back and made anew they are the same.
func TestUnwaveIsOneToOne(t *testing.T) {
	d := dice(806)
	for range 3000 {
		list := make([]int64, d.below(30))
		for i := range list {
			list[i] = d.below(1<<21) - 1<<20
		}
		steps := 1 + d.below(12)
		back, ok := impl.Unwave(list, steps)
		if !ok {
			t.Fatal(list)
		}
		if again, ok := impl.Wave(back, steps); !ok || !slices.Equal(again, list) {
			t.Fatalf("Wave(%v, %d) = %v, not %v", back, steps, again, list)
		}
	}
}
