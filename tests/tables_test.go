package tests

import (
	"fmt"
	"math"
	"slices"
	"strconv"
	"strings"
	"testing"

	"loop.example/g00051/impl"
)

func TestTableNumbers(t *testing.T) {
	if got := [...]int64{impl.MaxTable, impl.MaxPlan, impl.MaxSteps, impl.MaxRows}; got != [...]int64{200, 100, 5000, 50} {
		t.Error("limits", got)
	}
	if got := [...]int64{impl.BfPlan, impl.BfMany, impl.BfShort, impl.BfWidth, impl.BfRange, impl.BfRest, impl.BfForm}; got != [...]int64{1, 2, 3, 4, 5, 6, 7} {
		t.Error("codes", got)
	}
}

// shortTable has an Elem of 8 bits in tenths from -10 on, one of 4 bits, one of 1 bit, one of 32, and one in thousands.
func shortTable() []impl.Elem {
	return []impl.Elem{{Code: 1, Width: 8, Scale: 1, Ref: -100}, {Code: 2, Width: 4}, {Code: 3, Width: 1, Ref: 5}, {Code: 50, Width: 32, Scale: 2, Ref: -1000000000}, {Code: 99999, Width: 10, Scale: -3, Ref: 7}}
}

// longTable has so many Elems, of all widths and scales.
func longTable(count int) []impl.Elem {
	table := make([]impl.Elem, count)
	for i := range table {
		table[i] = impl.Elem{Code: int64(i+1) * 400, Width: int64(i%32) + 1, Scale: int64(i%21) - 10, Ref: int64(i) * 1000}
	}
	return table
}

func TestTables(t *testing.T) {
	for name, table := range map[string][]impl.Elem{
		"nil": nil, "empty": {}, "short": shortTable(), "199": longTable(199), "200": longTable(200),
		"codes 1 and 99999": {{Code: 1, Width: 1}, {Code: 99999, Width: 1}}, "code 1": {{Code: 1, Width: 1}}, "code 99999": {{Code: 99999, Width: 1}}, "neighbours": {{Code: 7, Width: 1}, {Code: 8, Width: 1}},
		"width 1": {{Code: 1, Width: 1}}, "width 32": {{Code: 1, Width: 32}}, "scale -10": {{Code: 1, Width: 1, Scale: -10}}, "scale 10": {{Code: 1, Width: 1, Scale: 10}},
		"the least ref": {{Code: 1, Width: 1, Ref: -1000000000}}, "the greatest ref": {{Code: 1, Width: 1, Ref: 1000000000}},
	} {
		if !impl.PlanOk(table, nil) {
			t.Errorf("%s: is one", name)
		}
	}
	for name, table := range wrongTables() {
		if impl.PlanOk(table, nil) || impl.PlanOk(table, []int64{201000}) {
			t.Errorf("%s: is none", name)
		}
	}
}

func wrongTables() map[string][]impl.Elem {
	wrong := map[string][]impl.Elem{
		"201": longTable(201), "5000": longTable(5000),
		"two alike": {{Code: 7, Width: 1}, {Code: 7, Width: 1}}, "falling": {{Code: 8, Width: 1}, {Code: 7, Width: 1}}, "falling at last": {{Code: 1, Width: 1}, {Code: 8, Width: 1}, {Code: 7, Width: 1}},
		"rising again": {{Code: 5, Width: 1}, {Code: 1, Width: 1}, {Code: 3, Width: 1}},
	}
	for name, e := range map[string]impl.Elem{
		"code 0": {Code: 0, Width: 1}, "code -1": {Code: -1, Width: 1}, "code 100000": {Code: 100000, Width: 1}, "the least code": {Code: math.MinInt64, Width: 1}, "the greatest code": {Code: math.MaxInt64, Width: 1},
		"width 0": {Code: 9}, "width -1": {Code: 9, Width: -1}, "width 33": {Code: 9, Width: 33}, "the greatest width": {Code: 9, Width: math.MaxInt64},
		"scale -11": {Code: 9, Width: 1, Scale: -11}, "scale 11": {Code: 9, Width: 1, Scale: 11}, "the least scale": {Code: 9, Width: 1, Scale: math.MinInt64},
		"ref too low": {Code: 9, Width: 1, Ref: -1000000001}, "ref too high": {Code: 9, Width: 1, Ref: 1000000001}, "the least ref": {Code: 9, Width: 1, Ref: math.MinInt64}, "the greatest ref": {Code: 9, Width: 1, Ref: math.MaxInt64},
	} {
		wrong[name] = []impl.Elem{e}
		wrong[name+", first"] = []impl.Elem{e, {Code: 99999, Width: 1}}
		wrong[name+", last"] = []impl.Elem{{Code: 1, Width: 1}, {Code: 2, Width: 1}, e}
	}
	return wrong
}

// times has the list so often.
func times[T any](count int, list ...T) []T {
	return slices.Repeat(list, count)
}

// joint is one plan of several.
func joint(parts ...[]int64) []int64 {
	return slices.Concat(parts...)
}

func wrongPlans() map[string][]int64 {
	wrong := map[string][]int64{
		"101": times[int64](101, 2), "101 changes": times[int64](101, 201000), "5000": times[int64](5000, 2),
		"a repetition at the end": {101001}, "a count at the end": {101000}, "behind another": {2, 102003}, "one too few": {102003, 1}, "99 and 98 behind it": joint([]int64{199001}, times[int64](98, 2)),
		"beyond what covers it": {102002, 102002, 1, 2}, "beyond it at its end": {101002, 101002, 1}, "beyond it by one": {103002, 2, 102002, 1, 2}, "beyond the outer one": {104001, 103001, 2, 102001, 1, 2},
		"beyond the inner one": {105001, 102001, 1, 102001, 2, 2, 2}, "by counts": {102000, 102000, 1, 2}, "behind a part, one too few": {101002, 2, 102002, 1}, "within a part, one too few": {103002, 1, 1, 101001},
	}
	for name, d := range map[string]int64{
		"0": 0, "-1": -1, "-2": -2, "an Elem that isn't there": 4, "between two": 49, "above the last": 99998, "100000": 100000, "X 0": 100001, "X 0 and 255": 100255, "X 0 and 999": 100999,
		"Y 256": 101256, "Y 999": 101999, "X 99, Y 256": 199256, "X 100": 200000, "X 100, Y 1": 200001, "width 256": 201256, "width 999": 201999, "scale 256": 202256, "203000": 203000, "203001": 203001,
		"204000": 204000, "300002": 300002, "1000000": 1000000, "the greatest": math.MaxInt64, "the least": math.MinInt64, "-101001": -101001, "-201000": -201000,
	} {
		wrong[name] = []int64{d}
		wrong[name+", with some behind it"] = joint([]int64{d}, times[int64](99, 2))
		wrong[name+", last"] = []int64{1, 2, 201000, d}
		wrong[name+", repeated"] = []int64{101003, d}
	}
	return wrong
}

func TestPlanOk(t *testing.T) {
	for name, plan := range map[string][]int64{
		"nil": nil, "empty": {}, "each Elem": {1, 2, 3, 50, 99999}, "again": {2, 2, 2}, "100": times[int64](100, 2), "100 changes": times[int64](100, 202255),
		"X 1": {101001, 2}, "X 1, Y 255": {101255, 2}, "X 1, a count": {101000, 2}, "X 99": joint([]int64{199001}, times[int64](99, 2)), "X 99, Y 255": joint([]int64{199255}, times[int64](99, 2)), "X 99, a count": joint([]int64{199000}, times[int64](99, 2)),
		"widths": {201000, 201001, 201128, 201255}, "scales": {202000, 202001, 202128, 202255}, "one within another": {103002, 102003, 1, 2}, "ending together": {104002, 103002, 102002, 101002, 2}, "two in one": {104002, 101002, 1, 101003, 2},
		"ahead of the end": {104002, 102002, 1, 2, 3}, "one behind another": {101002, 1, 102002, 1, 2}, "only changes repeated": {102255, 201000, 202000}, "counts in one another": {103000, 102000, 101000, 2}, "99 in one another": deepPlan(99, 1, 2),
	} {
		if !impl.PlanOk(shortTable(), plan) {
			t.Errorf("%s: is one", name)
		}
	}
	for name, plan := range wrongPlans() {
		if impl.PlanOk(shortTable(), plan) {
			t.Errorf("%s: is none", name)
		}
	}
	if impl.PlanOk(nil, []int64{1}) || impl.PlanOk(nil, []int64{0}) || !impl.PlanOk(nil, []int64{101001, 201001}) {
		t.Error("without a table")
	}
	for i, e := range longTable(200) {
		if !impl.PlanOk(longTable(200), []int64{e.Code}) || impl.PlanOk(longTable(200), []int64{e.Code - 1}) || impl.PlanOk(longTable(200), []int64{e.Code + 1}) {
			t.Errorf("the Elem at %d", i)
		}
	}
}

// deepPlan is so many repetitions in one another, ending together at one more descriptor.
func deepPlan(depth int, often int64, last int64) []int64 {
	var plan []int64
	for left := depth; left > 0; left-- {
		plan = append(plan, 100000+1000*int64(left)+often)
	}
	return append(plan, last)
}

// planOkBySteps holds each repetition against each that stands ahead of it.
func planOkBySteps(table []impl.Elem, plan []int64) bool {
	end := func(i int) int { return i + int(plan[i]/1000-100) }
	repeating := func(i int) bool { return plan[i] >= 101000 && plan[i] < 200000 }
	for i, d := range plan {
		known := slices.ContainsFunc(table, func(e impl.Elem) bool { return e.Code == d })
		if !known && !(d >= 101000 && d%1000 <= 255 && d < 203000 && d/1000 != 200) {
			return false
		}
		if !repeating(i) {
			continue
		}
		if end(i) >= len(plan) {
			return false
		}
		for ahead := range i {
			if repeating(ahead) && end(ahead) >= i && end(ahead) < end(i) {
				return false
			}
		}
	}
	return len(plan) <= 100
}

func TestPlanOkByPairs(t *testing.T) {
	d := dice(701)
	right := 0
	for range 30000 {
		plan := make([]int64, d.below(9))
		for i := range plan {
			switch d.below(4) {
			case 0:
				plan[i] = 101000 + 1000*d.below(4) + d.below(3)
			case 1:
				plan[i] = []int64{201000, 202255, 200000, 99999, 100001, 201256}[d.below(6)]
			default:
				plan[i] = []int64{1, 2, 3, 1, 2, 3, 50, 51}[d.below(8)]
			}
		}
		want := planOkBySteps(shortTable(), plan)
		if want {
			right++
		}
		if impl.PlanOk(shortTable(), plan) != want {
			t.Fatal(plan, want)
		}
	}
	if right < 3000 || right > 27000 {
		t.Error("right ones:", right)
	}
}

// walker goes through a plan by recursion. Its visit is told each Elem as it is then, and each count as one of Code 0;
// it answers what a count says, and a code.
type walker struct {
	table        []impl.Elem
	wider, finer int64
	steps        int
	visit        func(e impl.Elem) (int64, int64)
}

func (w *walker) walk(plan []int64) int64 {
	for i := 0; i < len(plan); i++ {
		w.steps++
		if w.steps > 5000 {
			return 2
		}
		d := plan[i]
		x, y := d/1000-100, d%1000
		switch {
		case d < 100000:
			if code := w.element(d); code != 0 {
				return code
			}
		case d < 200000:
			code := int64(0)
			if y == 0 {
				y, code = w.visit(impl.Elem{Width: 8})
			}
			for turn := int64(0); turn < y && code == 0; turn++ {
				code = w.walk(plan[i+1 : i+1+int(x)])
			}
			if code != 0 {
				return code
			}
			i += int(x)
		case d == 201000:
			w.wider = 0
		case d == 202000:
			w.finer = 0
		case d < 202000:
			w.wider = y - 128
		default:
			w.finer = y - 128
		}
	}
	return 0
}

func (w *walker) element(code int64) int64 {
	for _, e := range w.table {
		if e.Code != code {
			continue
		}
		e.Width, e.Scale = e.Width+w.wider, e.Scale+w.finer
		if e.Width < 1 || e.Width > 32 || e.Scale < -10 || e.Scale > 10 {
			return 4
		}
		_, refused := w.visit(e)
		return refused
	}
	panic("no such Elem")
}

func tens(scale int64) float64 {
	return []float64{1, 10, 100, 1e3, 1e4, 1e5, 1e6, 1e7, 1e8, 1e9, 1e10}[max(scale, -scale)]
}

// numberBySteps is -1 for a missing value, -2 for one without bits.
func numberBySteps(e impl.Elem, x float64) int64 {
	if e.Code == 0 {
		for n := range int64(256) {
			if math.Float64bits(float64(n)) == math.Float64bits(x) {
				return n
			}
		}
		return -2
	}
	if x != x {
		return -1
	}
	if e.Scale >= 0 {
		x *= tens(e.Scale)
	} else {
		x /= tens(e.Scale)
	}
	n := math.RoundToEven(x) - float64(e.Ref)
	if !(math.Abs(x) <= 1e15) || n < 0 || n > math.Pow(2, float64(e.Width))-2 {
		return -2
	}
	return int64(n)
}

func valueBySteps(e impl.Elem, number int64) float64 {
	switch {
	case number < 0:
		return none
	case e.Scale >= 0:
		return float64(number+e.Ref) / tens(e.Scale)
	}
	return float64(number+e.Ref) * tens(e.Scale)
}

func bitText(number int64, width int64) string {
	if number < 0 {
		return strings.Repeat("1", int(width))
	}
	if width == 0 {
		return ""
	}
	return fmt.Sprintf("%0*b", width, number)
}

// bytesOf fills a text of bits up to whole bytes.
func bytesOf(text string) []byte {
	var data []byte
	for len(text)%8 != 0 {
		text += "0"
	}
	for ; text != ""; text = text[8:] {
		b, _ := strconv.ParseUint(text[:8], 2, 8)
		data = append(data, byte(b))
	}
	return data
}

func bitsText(data []byte) string {
	var text strings.Builder
	for _, b := range data {
		fmt.Fprintf(&text, "%08b", b)
	}
	return text.String()
}

// cell is a value's number with what it stands for.
type cell struct {
	elem   impl.Elem
	number int64
}

func cellsBySteps(table []impl.Elem, plan []int64, values []float64) ([]cell, int64) {
	var cells []cell
	w := walker{table: table}
	w.visit = func(e impl.Elem) (int64, int64) {
		if len(cells) == len(values) {
			return 0, 3
		}
		n := numberBySteps(e, values[len(cells)])
		if n == -2 {
			return 0, 5
		}
		cells = append(cells, cell{e, n})
		return n, 0
	}
	code := w.walk(plan)
	if code == 0 && len(cells) < len(values) {
		code = 6
	}
	return cells, code
}

func encodeBySteps(table []impl.Elem, plan []int64, values []float64) ([]byte, int64) {
	cells, code := cellsBySteps(table, plan, values)
	if code != 0 {
		return nil, code
	}
	var text strings.Builder
	for _, c := range cells {
		text.WriteString(bitText(c.number, c.elem.Width))
	}
	return bytesOf(text.String()), 0
}

func decodeBySteps(table []impl.Elem, plan []int64, data []byte) ([]float64, int64) {
	var values []float64
	text := bitsText(data)
	w := walker{table: table}
	w.visit = func(e impl.Elem) (int64, int64) {
		if len(text) < int(e.Width) {
			return 0, 3
		}
		bits := text[:e.Width]
		text = text[e.Width:]
		number, _ := strconv.ParseInt(bits, 2, 64)
		if e.Code != 0 && !strings.Contains(bits, "0") {
			values = append(values, none)
		} else {
			values = append(values, valueBySteps(e, number))
		}
		return number, 0
	}
	code := w.walk(plan)
	if code == 0 && (len(text) > 7 || strings.Contains(text, "1")) {
		code = 6
	}
	if code != 0 {
		return nil, code
	}
	return values, 0
}

// columnBySteps writes one Elem of several rows (-1: missing).
func columnBySteps(numbers []int64, width int64) string {
	lowest, highest := int64(-1), int64(-1)
	for _, n := range numbers {
		if n >= 0 && (lowest < 0 || n < lowest) {
			lowest = n
		}
		highest = max(highest, n)
	}
	fewest := int64(0)
	if lowest >= 0 && (lowest < highest || slices.Contains(numbers, -1)) {
		for highest-lowest > 1<<fewest-2 {
			fewest++
		}
	}
	text := bitText(lowest, width) + bitText(fewest, 6)
	for _, n := range numbers {
		if n >= 0 {
			n -= lowest
		}
		text += bitText(n, fewest)
	}
	return text
}

func encodeManyBySteps(table []impl.Elem, plan []int64, rows [][]float64) ([]byte, int64) {
	var lists [][]cell
	for _, values := range rows {
		cells, code := cellsBySteps(table, plan, values)
		if code != 0 {
			return nil, code
		}
		lists = append(lists, cells)
	}
	var text strings.Builder
	for i, c := range lists[0] {
		var numbers []int64
		for _, cells := range lists {
			numbers = append(numbers, cells[i].number)
		}
		text.WriteString(columnBySteps(numbers, c.elem.Width))
	}
	return bytesOf(text.String()), 0
}

func decodeManyBySteps(table []impl.Elem, plan []int64, rows int64, data []byte) ([][]float64, int64) {
	lists := make([][]float64, rows)
	text := bitsText(data)
	w := walker{table: table}
	w.visit = func(e impl.Elem) (int64, int64) {
		if len(text) < int(e.Width)+6 {
			return 0, 3
		}
		lowest, _ := strconv.ParseInt(text[:e.Width], 2, 64)
		above, _ := strconv.ParseInt(text[e.Width:e.Width+6], 2, 64)
		size := int(e.Width + 6 + rows*above)
		if len(text) < size {
			return 0, 3
		}
		whole := text[:size]
		text = text[size:]
		numbers, ok := numbersBySteps(whole[e.Width+6:], lowest, above, rows, e.Width)
		if !ok || columnBySteps(numbers, e.Width) != whole {
			return 0, 7
		}
		for row, n := range numbers {
			lists[row] = append(lists[row], valueBySteps(e, n))
		}
		return 0, 0
	}
	code := w.walk(plan)
	if code == 0 && (len(text) > 7 || strings.Contains(text, "1")) {
		code = 6
	}
	if code != 0 {
		return nil, code
	}
	return lists, 0
}

func numbersBySteps(text string, lowest, above, rows, width int64) ([]int64, bool) {
	missing := int64(1)<<width - 1
	numbers := make([]int64, rows)
	for row := range numbers {
		numbers[row] = lowest
		if above == 0 {
			if lowest == missing {
				numbers[row] = -1
			}
			continue
		}
		bits := text[:above]
		text = text[above:]
		n, err := strconv.ParseInt(bits, 2, 64)
		switch {
		case !strings.Contains(bits, "0"):
			numbers[row] = -1
		case err != nil || n >= missing || lowest+n >= missing:
			return nil, false
		default:
			numbers[row] = lowest + n
		}
	}
	return numbers, true
}

func sameList(a, b []float64) bool {
	return slices.EqualFunc(a, b, sameFloat)
}

func sameLists(a, b [][]float64) bool {
	return slices.EqualFunc(a, b, sameList)
}

// rolledPlan is a right plan of so many descriptors of shortTable.
func rolledPlan(d *dice, size int64, counts bool) []int64 {
	var plan []int64
	for left := size; left > 0; {
		one := []int64{1, 2, 3, 50, 99999}[d.below(5)]
		switch d.below(8) {
		case 0, 1:
			if left < 2 {
				break
			}
			covers := 1 + d.below(left-1)
			often := 1 + d.below(3)
			if d.below(3) == 0 {
				often = 1 + d.below(255)
			}
			if counts && d.below(3) == 0 {
				often = 0
			}
			plan = append(plan, 100000+1000*covers+often)
			plan = append(plan, rolledPlan(d, covers, counts)...)
			left -= covers + 1
			continue
		case 2:
			one = 201000 + 126 + d.below(6)
		case 3:
			one = 202000 + 126 + d.below(6)
		case 4:
			one = []int64{201000, 202000, 201000, 202000, 201000, 202000, 201128, 202128, 201001, 202255}[d.below(10)]
		}
		plan = append(plan, one)
		left--
	}
	return plan
}

// rolledValues has values for a plan, as far as it can be gone through; most of them have bits.
func rolledValues(d *dice, plan []int64) []float64 {
	var values []float64
	w := walker{table: shortTable()}
	w.visit = func(e impl.Elem) (int64, int64) {
		if e.Code == 0 {
			n := d.below(4)
			values = append(values, float64(n))
			return n, 0
		}
		highest := int64(1)<<e.Width - 2
		n := []int64{0, highest, d.below(highest + 1), d.below(highest + 1), min(highest, d.below(5)), -1}[d.below(6)]
		if d.below(400) == 0 {
			n = highest + 1
		}
		x := valueBySteps(e, n)
		if d.below(3) == 0 {
			x += valueBySteps(impl.Elem{Scale: e.Scale}, 1) * float64(d.below(9)-4) / 10
		}
		values = append(values, x)
		return 0, 0
	}
	w.walk(plan)
	if d.below(20) == 0 && len(values) > 0 {
		values = values[:len(values)-1]
	}
	if d.below(20) == 0 {
		values = append(values, 0)
	}
	return values
}

// cameOften fails when what was rolled asks too little of one of the codes.
func cameOften(t *testing.T, times map[int64]int, codes ...int64) {
	t.Helper()
	for _, code := range codes {
		if times[code] < 20 {
			t.Error("code", code, "came", times[code], "times")
		}
	}
}

func TestEncodeAndDecodeBySteps(t *testing.T) {
	d := dice(702)
	codes := map[int64]int{}
	for range 10000 {
		plan := rolledPlan(&d, d.below(13), true)
		values := rolledValues(&d, plan)
		data, code := impl.Encode(shortTable(), plan, values)
		codes[code]++
		want, told := encodeBySteps(shortTable(), plan, values)
		if code != told || !slices.Equal(data, want) {
			t.Fatalf("Encode of %v by %v: %v, %d, not %v, %d", values, plan, data, code, want, told)
		}
		if code != 0 {
			data = bytesOf(strings.Repeat("0110", int(d.below(30))))
		}
		spoilt := slices.Clone(data)
		if len(spoilt) > 0 {
			spoilt[d.below(int64(len(spoilt)))] ^= 1 << d.below(8)
		}
		for _, given := range [][]byte{data, spoilt, data[:len(data)/2], append(slices.Clone(data), 0)} {
			got, code := impl.Decode(shortTable(), plan, given)
			want, told := decodeBySteps(shortTable(), plan, given)
			if code != told || !sameList(got, want) {
				t.Fatalf("Decode of %v by %v: %v, %d, not %v, %d", given, plan, got, code, want, told)
			}
		}
	}
	cameOften(t, codes, 0, 2, 3, 4, 5, 6)
}

// Promise 7: by a plan values are read back, missing where they were; no other bytes are read as them.
func TestValuesAreReadBack(t *testing.T) {
	d := dice(703)
	for range 1500 {
		plan := rolledPlan(&d, 1+d.below(8), true)
		values := rolledValues(&d, plan)
		data, code := impl.Encode(shortTable(), plan, values)
		if code != 0 {
			continue
		}
		back, code := impl.Decode(shortTable(), plan, data)
		if code != 0 || len(back) != len(values) {
			t.Fatalf("%v by %v: read %v, %d", values, plan, back, code)
		}
		cells, _ := cellsBySteps(shortTable(), plan, values)
		for i, c := range cells {
			half := valueBySteps(impl.Elem{Scale: c.elem.Scale}, 1) * 0.5000001
			if math.IsNaN(values[i]) != math.IsNaN(back[i]) || math.Abs(values[i]-back[i]) > half {
				t.Fatalf("%v by %v: %v for %v", values, plan, back[i], values[i])
			}
		}
		again, code := impl.Encode(shortTable(), plan, back)
		if code != 0 || !slices.Equal(again, data) {
			t.Fatalf("%v by %v: %v, then %v", values, plan, data, again)
		}
		for _, other := range othersThan(data, &d) {
			if read, code := impl.Decode(shortTable(), plan, other); code == 0 && sameList(read, back) {
				t.Fatalf("%v and %v by %v: both %v", data, other, plan, back)
			}
		}
	}
}

// othersThan has bytes that differ a little: a bit, a byte more or less.
func othersThan(data []byte, d *dice) [][]byte {
	others := [][]byte{append(slices.Clone(data), 0), append(slices.Clone(data), 0x80), append([]byte{0}, data...)}
	if len(data) > 0 {
		others = append(others, data[:len(data)-1], data[1:])
	}
	for bit := range min(len(data)*8, 60) {
		if len(data)*8 > 60 {
			bit = int(d.below(int64(len(data) * 8)))
		}
		other := slices.Clone(data)
		other[bit/8] ^= 0x80 >> (bit % 8)
		others = append(others, other)
	}
	return others
}

// All bytes of a small plan: each that is read is what is written.
func TestEachByteOfASmallPlan(t *testing.T) {
	table := []impl.Elem{{Code: 4, Width: 2, Ref: -1}, {Code: 5, Width: 3, Scale: -1}}
	plan := []int64{5, 101002, 4}
	seen := map[string]bool{}
	for b := range 256 {
		values, code := impl.Decode(table, plan, []byte{byte(b)})
		if b%2 == 1 {
			if code != impl.BfRest || len(values) != 0 {
				t.Errorf("%08b: %v, %d", b, values, code)
			}
			continue
		}
		data, again := impl.Encode(table, plan, values)
		if code != 0 || again != 0 || len(data) != 1 || data[0] != byte(b) {
			t.Errorf("%08b: %v, %d; then %v, %d", b, values, code, data, again)
		}
		seen[fmt.Sprint(values)] = true
	}
	if len(seen) != 8*4*4 {
		t.Error("kinds of values:", len(seen))
	}
}

func TestNumbersOfElements(t *testing.T) {
	const far = 1 << 32
	for _, c := range []struct {
		e    impl.Elem
		x    float64
		bits string
	}{
		{impl.Elem{Width: 4}, 0, "0000"}, {impl.Elem{Width: 4}, 14, "1110"}, {impl.Elem{Width: 4}, 15, ""}, {impl.Elem{Width: 4}, -1, ""}, {impl.Elem{Width: 4}, none, "1111"}, {impl.Elem{Width: 4}, payload, "1111"},
		{impl.Elem{Width: 4}, below0, "0000"}, {impl.Elem{Width: 4}, high, ""}, {impl.Elem{Width: 4}, low, ""}, {impl.Elem{Width: 4}, most, ""}, {impl.Elem{Width: 4}, least, "0000"}, {impl.Elem{Width: 4}, -least, "0000"},
		// Halves go to the even number.
		{impl.Elem{Width: 4}, 0.5, "0000"}, {impl.Elem{Width: 4}, 1.5, "0010"}, {impl.Elem{Width: 4}, 2.5, "0010"}, {impl.Elem{Width: 4}, 13.5, "1110"}, {impl.Elem{Width: 4}, 14.5, "1110"}, {impl.Elem{Width: 4}, -0.5, "0000"},
		{impl.Elem{Width: 4}, math.Nextafter(14.5, 15), ""}, {impl.Elem{Width: 4}, math.Nextafter(-0.5, -1), ""}, {impl.Elem{Width: 4, Ref: 1}, 0.5, ""}, {impl.Elem{Width: 4, Ref: 1}, 1.5, "0001"}, {impl.Elem{Width: 4, Ref: -1}, -0.5, "0001"}, {impl.Elem{Width: 4, Ref: -1}, -1.5, ""},
		{impl.Elem{Width: 1}, 0, "0"}, {impl.Elem{Width: 1}, 1, ""}, {impl.Elem{Width: 1}, none, "1"}, {impl.Elem{Width: 2}, 2, "10"}, {impl.Elem{Width: 2}, 3, ""}, {impl.Elem{Width: 1, Ref: 7}, 7, "0"}, {impl.Elem{Width: 1, Ref: 7}, 6, ""}, {impl.Elem{Width: 1, Ref: 7}, 8, ""},
		{impl.Elem{Width: 32}, far - 2, strings.Repeat("1", 31) + "0"}, {impl.Elem{Width: 32}, far - 1, ""}, {impl.Elem{Width: 32}, far, ""}, {impl.Elem{Width: 32}, none, strings.Repeat("1", 32)}, {impl.Elem{Width: 32}, 1, strings.Repeat("0", 31) + "1"},
		{impl.Elem{Width: 32, Ref: -1000000000}, -1000000000, strings.Repeat("0", 32)}, {impl.Elem{Width: 32, Ref: -1000000000}, far - 2 - 1000000000, strings.Repeat("1", 31) + "0"}, {impl.Elem{Width: 32, Ref: 1000000000}, far - 2 + 1000000000, strings.Repeat("1", 31) + "0"}, {impl.Elem{Width: 32, Ref: 1000000000}, 999999999, ""},
		{impl.Elem{Width: 8, Scale: 1, Ref: -100}, 2.5, "01111101"}, {impl.Elem{Width: 8, Scale: 1, Ref: -100}, -10, "00000000"}, {impl.Elem{Width: 8, Scale: 1, Ref: -100}, 0.25, "01100110"}, {impl.Elem{Width: 8, Scale: 1, Ref: -100}, 15.4, "11111110"}, {impl.Elem{Width: 8, Scale: 1, Ref: -100}, 15.5, ""},
		{impl.Elem{Width: 8, Scale: -1, Ref: -100}, -1000, "00000000"}, {impl.Elem{Width: 8, Scale: -1, Ref: -100}, -996, "00000000"}, {impl.Elem{Width: 8, Scale: -1, Ref: -100}, -985, "00000010"}, {impl.Elem{Width: 8, Scale: -1, Ref: -100}, 1540, "11111110"}, {impl.Elem{Width: 8, Scale: -1, Ref: -100}, 1546, ""},
		{impl.Elem{Width: 8, Scale: 10}, 1e-10, "00000001"}, {impl.Elem{Width: 8, Scale: 10}, 2.54e-8, "11111110"}, {impl.Elem{Width: 8, Scale: 10}, 1e6, ""}, {impl.Elem{Width: 8, Scale: 10}, 1e300, ""}, {impl.Elem{Width: 8, Scale: -10}, 1e10, "00000001"}, {impl.Elem{Width: 8, Scale: -10}, 2.54e12, "11111110"}, {impl.Elem{Width: 8, Scale: -10}, least, "00000000"}, {impl.Elem{Width: 8, Scale: -10}, most, ""},
		{impl.Elem{Width: 8, Scale: 2}, 1.005, "01100100"}, // the product is a little below a half
	} {
		c.e.Code = 6
		data, code := impl.Encode([]impl.Elem{c.e}, []int64{6}, []float64{c.x})
		if c.bits == "" {
			if code != impl.BfRange || len(data) != 0 {
				t.Errorf("%v at %v: %v, %d", c.x, c.e, data, code)
			}
			continue
		}
		if code != 0 || !slices.Equal(data, bytesOf(c.bits)) {
			t.Errorf("%v at %v: %v, %d, not %s", c.x, c.e, data, code, c.bits)
		}
	}
}

func TestValuesOfBits(t *testing.T) {
	for _, c := range []struct {
		e    impl.Elem
		bits string
		want float64
	}{
		{impl.Elem{Width: 4}, "0000", 0}, {impl.Elem{Width: 4}, "1110", 14}, {impl.Elem{Width: 4}, "1111", none}, {impl.Elem{Width: 1}, "0", 0}, {impl.Elem{Width: 1}, "1", none}, {impl.Elem{Width: 4, Ref: -3}, "0011", 0}, {impl.Elem{Width: 4, Ref: -3}, "0000", -3},
		{impl.Elem{Width: 32}, strings.Repeat("1", 31) + "0", 1<<32 - 2}, {impl.Elem{Width: 32, Ref: 1000000000}, strings.Repeat("1", 31) + "0", 1<<32 - 2 + 1e9}, {impl.Elem{Width: 32, Ref: -1000000000}, strings.Repeat("0", 32), -1e9}, {impl.Elem{Width: 32}, strings.Repeat("1", 32), none},
		{impl.Elem{Width: 8, Scale: 1}, "00000011", 0.3}, {impl.Elem{Width: 8, Scale: 2, Ref: -100}, "00000001", -0.99}, {impl.Elem{Width: 8, Scale: 10}, "00000111", 7e-10}, {impl.Elem{Width: 8, Scale: -1}, "00000011", 30}, {impl.Elem{Width: 8, Scale: -10, Ref: -8}, "00000001", -7e10},
		{impl.Elem{Width: 8, Scale: 10, Ref: -1}, "00000001", 0}, {impl.Elem{Width: 8, Scale: -10, Ref: -1}, "00000001", 0}, {impl.Elem{Width: 32, Scale: -10, Ref: 1000000000}, strings.Repeat("1", 31) + "0", 5294967294e10}, {impl.Elem{Width: 32, Scale: 10, Ref: 1000000000}, strings.Repeat("1", 31) + "0", 0.5294967294},
	} {
		c.e.Code = 6
		got, code := impl.Decode([]impl.Elem{c.e}, []int64{6}, bytesOf(c.bits))
		if code != 0 || len(got) != 1 || !sameFloat(got[0], c.want) {
			t.Errorf("%s at %v: %v, %d, not %v", c.bits, c.e, got, code, c.want)
		}
	}
}

// Every Width, Scale and end of Ref: the least and the greatest number come back.
func TestEachWidthAndScale(t *testing.T) {
	for width := int64(1); width <= 32; width++ {
		for scale := int64(-10); scale <= 10; scale++ {
			for _, ref := range []int64{-1000000000, -1, 0, 1, 999, 1000000000} {
				table := []impl.Elem{{Code: 77, Width: width, Scale: scale, Ref: ref}}
				for _, n := range []int64{-1, 0, 1, 1<<width - 3, 1<<width - 2} {
					if n > 1<<width-2 || width == 1 && n != 0 && n != -1 {
						continue
					}
					data := bytesOf(bitText(n, width))
					values, code := impl.Decode(table, []int64{77}, data)
					if code != 0 || len(values) != 1 || !sameFloat(values[0], valueBySteps(table[0], n)) {
						t.Fatalf("%d at %v: %v, %d", n, table, values, code)
					}
					if again, code := impl.Encode(table, []int64{77}, values); code != 0 || !slices.Equal(again, data) {
						t.Fatalf("%d at %v: %v is %v, %d", n, table, values, again, code)
					}
				}
			}
		}
	}
}

func TestCounts(t *testing.T) {
	plan := []int64{101000, 2}
	for _, count := range []int{0, 1, 2, 254, 255} {
		values := append([]float64{float64(count)}, times(count, 6.0)...)
		want := bytesOf(bitText(int64(count), 8) + strings.Repeat("0110", count))
		data, code := impl.Encode(shortTable(), plan, values)
		if code != 0 || !slices.Equal(data, want) {
			t.Errorf("%d: %v, %d", count, data, code)
		}
		if back, code := impl.Decode(shortTable(), plan, want); code != 0 || !sameList(back, values) {
			t.Errorf("%d: read %v, %d", count, back, code)
		}
	}
	for _, x := range []float64{none, payload, below0, -1, 256, 255.5, 0.5, 1.0000000001, math.Nextafter(1, 0), math.Nextafter(255, 256), least, -least, high, low, most, 1e15, 1e16, -256} {
		if data, code := impl.Encode(shortTable(), plan, append([]float64{x}, times(300, 6.0)...)); code != impl.BfRange || len(data) != 0 {
			t.Errorf("a count of %v: %v, %d", x, data, code)
		}
	}
	// Neither Width nor Scale of a count is changed.
	data, code := impl.Encode(shortTable(), []int64{201130, 202129, 101000, 2}, []float64{2, 1.5, none})
	if code != 0 || !slices.Equal(data, bytesOf("00000010"+"001111"+"111111")) {
		t.Error("behind changes", data, code)
	}
	// In one another: two parts, of none and of two.
	data, code = impl.Encode(shortTable(), []int64{102000, 101000, 2}, []float64{2, 0, 2, 1, 3})
	if code != 0 || !slices.Equal(data, bytesOf("00000010"+"00000000"+"00000010"+"0001"+"0011")) {
		t.Error("counts in one another", data, code)
	}
	// A count of 0 whose part ends where the one around it does, and what stands behind.
	data, code = impl.Encode(shortTable(), []int64{103002, 2, 101000, 2, 3}, []float64{1, 0, 2, 0, 5})
	if code != 0 || !slices.Equal(data, bytesOf("0001"+"00000000"+"0010"+"00000000"+"0")) {
		t.Error("a count of 0 at the end", data, code)
	}
	data, code = impl.Encode(shortTable(), []int64{103000, 101000, 2, 2, 1}, []float64{0, 0})
	if code != 0 || !slices.Equal(data, bytesOf("00000000"+"01100100")) {
		t.Error("nothing in a part of parts", data, code)
	}
}

func TestChangedWidths(t *testing.T) {
	for _, c := range []struct {
		plan   []int64
		values []float64
		bits   string
		code   int64
	}{
		{[]int64{201130, 2, 201000, 2}, []float64{3, 3}, "000011" + "0011", 0},
		{[]int64{201130, 201129, 2}, []float64{3}, "00011", 0}, // not one upon the other
		{[]int64{201128, 2}, []float64{3}, "0011", 0},
		{[]int64{201125, 2}, []float64{0}, "0", 0}, {[]int64{201125, 2}, []float64{1}, "", impl.BfRange}, {[]int64{201124, 2}, []float64{0}, "", impl.BfWidth}, {[]int64{201001, 2}, []float64{0}, "", impl.BfWidth},
		{[]int64{201156, 2}, []float64{none}, strings.Repeat("1", 32), 0}, {[]int64{201157, 2}, []float64{none}, "", impl.BfWidth}, {[]int64{201255, 2}, []float64{none}, "", impl.BfWidth},
		{[]int64{201255, 201000, 2}, []float64{3}, "0011", 0}, {[]int64{201001, 201128, 2}, []float64{3}, "0011", 0}, {[]int64{201255, 201001}, nil, "", 0}, {[]int64{202255, 202001}, nil, "", 0},
		{[]int64{202129, 2, 202000, 2}, []float64{1.2, 12}, "1100" + "1100", 0}, {[]int64{202127, 2}, []float64{120}, "1100", 0},
		{[]int64{202138, 2}, []float64{3e-10}, "0011", 0}, {[]int64{202139, 2}, []float64{0}, "", impl.BfWidth}, {[]int64{202118, 2}, []float64{3e10}, "0011", 0}, {[]int64{202117, 2}, []float64{0}, "", impl.BfWidth}, {[]int64{202255, 2}, []float64{0}, "", impl.BfWidth}, {[]int64{202001, 2}, []float64{0}, "", impl.BfWidth},
		{[]int64{202255, 202000, 2}, []float64{3}, "0011", 0}, {[]int64{202255, 202128, 2}, []float64{3}, "0011", 0}, {[]int64{202137, 1}, []float64{-1e-9}, "01011010", 0}, {[]int64{202138, 1}, []float64{0}, "", impl.BfWidth},
		{[]int64{201129, 202129, 201000, 2}, []float64{0.3}, "0011", 0}, {[]int64{201129, 202129, 202000, 2}, []float64{3}, "00011", 0},
		// Changed within a part, and still at its next turn and behind it.
		{[]int64{102002, 2, 201129, 2}, []float64{3, 3, 3}, "0011" + "00011" + "00011", 0}, {[]int64{102002, 2, 202129, 2}, []float64{3, 0.3, 0.3}, "0011" + "0011" + "0011", 0},
		{[]int64{103002, 2, 201129, 2, 201000, 2}, []float64{3, 3, 3, 3, 3}, "0011" + "00011" + "00011" + "00011" + "0011", 0},
		{[]int64{201130, 101000, 201255, 2}, []float64{0, 3}, "00000000" + "000011", 0}, {[]int64{201130, 101000, 201255, 2}, []float64{1, 3}, "", impl.BfWidth},
	} {
		data, code := impl.Encode(shortTable(), c.plan, c.values)
		if code != c.code || !slices.Equal(data, bytesOf(c.bits)) {
			t.Errorf("%v by %v: %v, %d, not %s, %d", c.values, c.plan, data, code, c.bits, c.code)
		}
		if c.code != 0 {
			continue
		}
		if back, code := impl.Decode(shortTable(), c.plan, data); code != 0 || !sameList(back, c.values) {
			t.Errorf("%s by %v: %v, %d", c.bits, c.plan, back, code)
		}
	}
}

func TestSteps(t *testing.T) {
	for _, c := range []struct {
		name   string
		plan   []int64
		values int // of Elem 2
		code   int64
	}{
		{"4999", joint([]int64{149102}, times[int64](49, 2)), 4998, 0},
		{"5000", joint([]int64{149102}, times[int64](49, 2), []int64{201000}), 4998, 0},
		{"5001", joint([]int64{149102}, times[int64](49, 2), []int64{201000, 202000}), 4998, impl.BfMany},
		{"5000, the last an Elem", joint([]int64{149102}, times[int64](49, 2), []int64{2}), 4999, 0},
		{"5001, the last an Elem", joint([]int64{149102}, times[int64](49, 2), []int64{2, 2}), 5000, impl.BfMany},
		{"changes alone", []int64{120250, 201000, 201000, 201000, 201000, 201000, 201000, 201000, 201000, 201000, 201000, 201000, 201000, 201000, 201000, 201000, 201000, 201000, 201000, 201000, 201000}, 0, impl.BfMany},
		{"repetitions of repetitions", deepPlan(99, 255, 201000), 0, impl.BfMany}, {"of repetitions, with values", deepPlan(99, 255, 2), 5000, impl.BfMany}, {"twice each", deepPlan(99, 2, 202000), 0, impl.BfMany}, {"once each", deepPlan(99, 1, 2), 1, 0}, {"once each, of nothing", deepPlan(99, 1, 202000), 0, 0},
		{"255 of 19", joint([]int64{119255}, times[int64](19, 2)), 255 * 19, 0}, {"255 of 20", joint([]int64{120255}, times[int64](20, 2)), 255 * 20, impl.BfMany},
		{"two in one another", []int64{102070, 101070, 2}, 4900, 0}, {"two in one another, too often", []int64{102071, 101070, 2}, 4970, impl.BfMany},
	} {
		values := times(c.values, 6.0)
		data, code := impl.Encode(shortTable(), c.plan, values)
		want, told := encodeBySteps(shortTable(), c.plan, values)
		if code != c.code || told != c.code || !slices.Equal(data, want) {
			t.Errorf("%s: %d bytes, %d", c.name, len(data), code)
		}
		given := slices.Repeat([]byte{0x66}, c.values/2)
		if c.values%2 == 1 {
			given = append(given, 0x60)
		}
		back, code := impl.Decode(shortTable(), c.plan, given)
		if c.code != 0 {
			if code != impl.BfMany || len(back) != 0 {
				t.Errorf("%s: read %d values, %d", c.name, len(back), code)
			}
		} else if code != 0 || !sameList(back, values) {
			t.Errorf("%s: read %d values, %d", c.name, len(back), code)
		}
		many, code := impl.EncodeMany(shortTable(), c.plan, [][]float64{values, values})
		if code != c.code || len(many) != (10*c.values+7)/8 && code == 0 || len(many) != 0 && code != 0 {
			t.Errorf("%s: %d bytes of many, %d", c.name, len(many), code)
		}
		lists, code := impl.DecodeMany(shortTable(), c.plan, 2, bytesOf(strings.Repeat("0110000000", c.values)))
		if c.code == 0 && (code != 0 || !sameLists(lists, [][]float64{values, values})) || c.code != 0 && (code != impl.BfMany || len(lists) != 0) {
			t.Errorf("%s: read %d rows, %d", c.name, len(lists), code)
		}
	}
}

// The first of the codes, where several would do.
func TestFirstCode(t *testing.T) {
	over := joint([]int64{149102}, times[int64](49, 2), []int64{201000})
	for _, c := range []struct {
		name   string
		plan   []int64
		values []float64
		code   int64
	}{
		{"a wrong plan, and all else", []int64{101255, 101255, 9}, []float64{high}, impl.BfPlan},
		{"the step too many ahead of no value", joint(over, []int64{2}), times(4998, 6.0), impl.BfMany},
		{"the step too many ahead of a wrong width", joint(over[:51], []int64{201255, 2}), times(5000, 6.0), impl.BfMany},
		{"a width ahead of the step too many", joint([]int64{201255}, over, []int64{2}), times(5000, 6.0), impl.BfWidth},
		{"no value ahead of the step too many", joint(over, []int64{2}), times(4997, 6.0), impl.BfShort},
		{"a wrong value ahead of the step too many", joint(over, []int64{2}), append(times(4997, 6.0), 99, 6), impl.BfRange},
		{"a width ahead of no value", []int64{201255, 2}, nil, impl.BfWidth}, {"a scale ahead of no value", []int64{202255, 2}, nil, impl.BfWidth}, {"a width ahead of a wrong value", []int64{201255, 2}, []float64{-7}, impl.BfWidth},
		{"no value, then a width", []int64{2, 201255, 2}, nil, impl.BfShort}, {"a wrong value, then a width", []int64{2, 201255, 2}, []float64{-7}, impl.BfRange}, {"a wrong value, then none", []int64{2, 2}, []float64{-7}, impl.BfRange},
		{"a wrong value, and one left", []int64{2}, []float64{-7, 1}, impl.BfRange}, {"no count", []int64{101000, 2}, nil, impl.BfShort}, {"a wrong count, and none behind", []int64{101000, 2}, []float64{0.5}, impl.BfRange}, {"a count, and none behind", []int64{101000, 2}, []float64{1}, impl.BfShort},
		{"one left", []int64{2}, []float64{1, 1}, impl.BfRest}, {"a missing one left", []int64{2}, []float64{1, none}, impl.BfRest}, {"one left of none", nil, []float64{1}, impl.BfRest}, {"one left by a count of 0", []int64{101000, 2}, []float64{0, 1}, impl.BfRest}, {"none of none", nil, nil, 0},
	} {
		if data, code := impl.Encode(shortTable(), c.plan, c.values); code != c.code || len(data) != 0 {
			t.Errorf("%s: %v, %d, not %d", c.name, data, code, c.code)
		}
	}
}

func TestDecodeByHand(t *testing.T) {
	for _, c := range []struct {
		name string
		plan []int64
		bits string
		want []float64
		code int64
	}{
		{"none", nil, "", nil, 0}, {"a byte of none", nil, "00000000", nil, impl.BfRest}, {"only changes", []int64{201255, 202255}, "", nil, 0},
		{"no bits", []int64{2}, "", nil, impl.BfShort}, {"ended within an Elem", []int64{1, 1}, "0000000000000", []float64{-10, -10}, 0}, {"a byte too few", []int64{1, 2, 1}, "0111110100110111", nil, impl.BfShort}, {"by a bit", []int64{1, 3}, "01111101", nil, impl.BfShort}, {"within a wide one", []int64{2, 50}, strings.Repeat("0", 32), nil, impl.BfShort},
		{"no count", []int64{3, 101000, 2}, "00000000", nil, impl.BfShort}, {"a count and none", []int64{101000, 1}, "00000001", nil, impl.BfShort}, {"a count of 255 and too few", []int64{101000, 2}, "1111111111111111", nil, impl.BfShort},
		{"fill of 0", []int64{1, 2}, "0111110100110000", []float64{2.5, 3}, 0}, {"a 1 at the end", []int64{1, 2}, "0111110100110001", nil, impl.BfRest}, {"a 1 at the fill's beginning", []int64{1, 2}, "0111110100111000", nil, impl.BfRest}, {"a 1 in a fill of 7", []int64{3}, "01000000", nil, impl.BfRest}, {"a fill of 7", []int64{3}, "00000000", []float64{5}, 0}, {"all 1 and a fill of 7", []int64{3}, "10000000", []float64{none}, 0},
		{"a byte too many", []int64{1, 2}, "011111010011000000000000", nil, impl.BfRest}, {"a byte too many behind a whole one", []int64{1}, "0111110100000000", nil, impl.BfRest}, {"many too many", []int64{1}, strings.Repeat("0", 800), nil, impl.BfRest},
		{"a width ahead of no bits", []int64{201255, 2}, "", nil, impl.BfWidth}, {"no bits ahead of a width", []int64{2, 201255, 2}, "", nil, impl.BfShort}, {"a wrong plan", []int64{9}, "00000000", nil, impl.BfPlan},
	} {
		got, code := impl.Decode(shortTable(), c.plan, bytesOf(c.bits))
		if code != c.code || !sameList(got, c.want) {
			t.Errorf("%s: %v, %d, not %v, %d", c.name, got, code, c.want, c.code)
		}
	}
}

func TestWrongTablesAndPlans(t *testing.T) {
	refused := func(name string, table []impl.Elem, plan []int64) {
		if data, code := impl.Encode(table, plan, []float64{1}); code != impl.BfPlan || len(data) != 0 {
			t.Errorf("%s: encoded %v, %d", name, data, code)
		}
		if values, code := impl.Decode(table, plan, []byte{1, 2}); code != impl.BfPlan || len(values) != 0 {
			t.Errorf("%s: decoded %v, %d", name, values, code)
		}
		if data, code := impl.EncodeMany(table, plan, [][]float64{{1}, {2}}); code != impl.BfPlan || len(data) != 0 {
			t.Errorf("%s: encoded many %v, %d", name, data, code)
		}
		if lists, code := impl.DecodeMany(table, plan, 2, []byte{1, 2}); code != impl.BfPlan || len(lists) != 0 {
			t.Errorf("%s: decoded many %v, %d", name, lists, code)
		}
	}
	for name, table := range wrongTables() {
		refused(name, table, []int64{201000})
		refused(name, table, nil)
	}
	for name, plan := range wrongPlans() {
		refused(name, shortTable(), plan)
	}
}

func TestManyByHand(t *testing.T) {
	for _, c := range []struct {
		name string
		plan []int64
		rows [][]float64
		bits string
		code int64
	}{
		{"one row", []int64{2}, [][]float64{{3}}, "0011" + "000000", 0}, {"one row, missing", []int64{2}, [][]float64{{none}}, "1111" + "000000", 0},
		{"the same", []int64{2}, [][]float64{{3}, {3}, {3}}, "0011" + "000000", 0}, {"the same by rounding", []int64{2}, [][]float64{{3.1}, {2.9}, {3}}, "0011" + "000000", 0}, {"all missing", []int64{2}, [][]float64{{none}, {payload}}, "1111" + "000000", 0},
		{"the same and one missing", []int64{2}, [][]float64{{3}, {none}, {3}}, "0011" + "000001" + "010", 0}, {"one known", []int64{2}, [][]float64{{none}, {14}, {none}}, "1110" + "000001" + "101", 0},
		{"by 1", []int64{2}, [][]float64{{3}, {4}}, "0011" + "000010" + "0001", 0}, {"by 2", []int64{2}, [][]float64{{5}, {3}}, "0011" + "000010" + "1000", 0}, {"by 2, one missing", []int64{2}, [][]float64{{5}, {none}, {3}}, "0011" + "000010" + "101100", 0},
		{"by 3", []int64{2}, [][]float64{{3}, {6}}, "0011" + "000011" + "000011", 0}, {"by 6", []int64{2}, [][]float64{{6}, {0}}, "0000" + "000011" + "110000", 0}, {"by 7", []int64{2}, [][]float64{{0}, {7}}, "0000" + "000100" + "00000111", 0}, {"by 14", []int64{2}, [][]float64{{14}, {0}, {none}}, "0000" + "000100" + "111000001111", 0},
		{"two Elems", []int64{1, 2}, [][]float64{{2.5, 1}, {2.5, none}}, "01111101" + "000000" + "0001" + "000001" + "01", 0}, {"repeated", []int64{101002, 3}, [][]float64{{5, none}, {5, 5}}, "0" + "000000" + "0" + "000001" + "10", 0},
		{"changed", []int64{201130, 2}, [][]float64{{60}, {62}}, "111100" + "000010" + "0010", 0}, {"nothing", nil, [][]float64{{}, nil}, "", 0}, {"only changes", []int64{201255}, [][]float64{nil}, "", 0},
		{"the first row's code", []int64{2}, [][]float64{{3}, {-1}, {}}, "", impl.BfRange}, {"its code, the other way", []int64{2}, [][]float64{{3}, {}, {-1}}, "", impl.BfShort}, {"too many in the last", []int64{2}, [][]float64{{3}, {3, 3}}, "", impl.BfRest}, {"a wrong width", []int64{201255, 2}, [][]float64{{}, {1}}, "", impl.BfWidth},
		{"no rows", []int64{2}, nil, "", impl.BfPlan}, {"a count", []int64{101000, 2}, [][]float64{{0}, {0}}, "", impl.BfPlan}, {"a count within", []int64{2, 103002, 2, 101000, 2}, [][]float64{{0}}, "", impl.BfPlan}, {"a count, and wrong rows", []int64{101000, 2}, [][]float64{{}, {-7}}, "", impl.BfPlan},
	} {
		data, code := impl.EncodeMany(shortTable(), c.plan, c.rows)
		if code != c.code || !slices.Equal(data, bytesOf(c.bits)) {
			t.Errorf("%s: %s, %d, not %s, %d", c.name, bitsText(data), code, c.bits, c.code)
		}
	}
}

func TestNumberOfRows(t *testing.T) {
	for _, rows := range []int{1, 2, 49, 50} {
		lists := times(rows, []float64{3, none})
		data, code := impl.EncodeMany(shortTable(), []int64{2, 2}, lists)
		if code != 0 || !slices.Equal(data, bytesOf("0011"+"000000"+"1111"+"000000")) {
			t.Errorf("%d rows: %v, %d", rows, data, code)
		}
		if back, code := impl.DecodeMany(shortTable(), []int64{2, 2}, int64(rows), data); code != 0 || !sameLists(back, lists) {
			t.Errorf("%d rows: read %v, %d", rows, back, code)
		}
		if back, code := impl.DecodeMany(shortTable(), []int64{201000}, int64(rows), nil); code != 0 || !sameLists(back, make([][]float64, rows)) {
			t.Errorf("%d rows of nothing: %v, %d", rows, back, code)
		}
	}
	for _, rows := range []int64{0, 51, 52, -1, 1000, math.MaxInt64, math.MinInt64} {
		if back, code := impl.DecodeMany(shortTable(), []int64{2}, rows, []byte{0x30, 0}); code != impl.BfPlan || len(back) != 0 {
			t.Errorf("%d rows: read %v, %d", rows, back, code)
		}
		if rows < 0 || rows > 1000 {
			continue
		}
		if data, code := impl.EncodeMany(shortTable(), []int64{2}, times(int(rows), []float64{3})); code != impl.BfPlan || len(data) != 0 {
			t.Errorf("%d rows: %v, %d", rows, data, code)
		}
	}
	if back, code := impl.DecodeMany(shortTable(), []int64{101000, 2}, 1, []byte{0}); code != impl.BfPlan || len(back) != 0 {
		t.Error("a count", back, code)
	}
}

// D at each of its steps: the greatest spread that it still holds, and one more.
func TestEachD(t *testing.T) {
	table := []impl.Elem{{Code: 8, Width: 32}}
	for fewest := int64(1); fewest <= 32; fewest++ {
		for _, missing := range []bool{false, true} {
			for _, apart := range []int64{1<<fewest - 2, 1<<fewest - 1} {
				if apart == 0 && !missing || apart > 1<<32-2 {
					continue
				}
				rows := [][]float64{{float64(apart)}, {0}}
				if missing {
					rows = append(rows, []float64{none})
				}
				d := fewest
				if apart == 1<<fewest-1 {
					d++
				}
				want := strings.Repeat("0", 32) + bitText(d, 6) + bitText(apart, d) + bitText(0, d)
				if missing {
					want += bitText(-1, d)
				}
				data, code := impl.EncodeMany(table, []int64{8}, rows)
				if code != 0 || !slices.Equal(data, bytesOf(want)) {
					t.Fatalf("%d apart: %s, %d, not %s", apart, bitsText(data), code, want)
				}
				if back, code := impl.DecodeMany(table, []int64{8}, int64(len(rows)), data); code != 0 || !sameLists(back, rows) {
					t.Fatalf("%d apart: read %v, %d", apart, back, code)
				}
			}
		}
	}
}

func TestNotWrittenSo(t *testing.T) {
	ones := strings.Repeat("1", 63)
	for _, c := range []struct {
		name string
		rows int64
		bits string
		code int64
	}{
		{"right", 2, "0011" + "000010" + "0010", 0}, {"D too great", 2, "0011" + "000011" + "000010", impl.BfForm}, {"D too great by far", 2, "0011" + "111111" + strings.Repeat("0", 63) + strings.Repeat("0", 61) + "10", impl.BfForm}, {"a D of 33", 2, "0000" + "100001" + strings.Repeat("0", 66), impl.BfForm},
		{"all the same, and a D", 2, "0011" + "000001" + "00", impl.BfForm}, {"all the same, and another D", 2, "0011" + "000010" + "0000", impl.BfForm}, {"one row and a D", 1, "0011" + "000001" + "0", impl.BfForm}, {"one row, missing, and a D", 1, "0011" + "000001" + "1", impl.BfForm},
		{"the least is not reached", 2, "0011" + "000010" + "0110", impl.BfForm}, {"not reached, one missing", 2, "0011" + "000010" + "0111", impl.BfForm}, {"reached, one missing", 2, "0011" + "000001" + "01", 0}, {"D too great for one missing", 2, "0011" + "000010" + "0011", impl.BfForm},
		{"the least all 1, and D 0", 2, "1111" + "000000", 0}, {"the least all 1, and a D", 2, "1111" + "000001" + "11", impl.BfForm}, {"the least all 1, and noughts", 2, "1111" + "000001" + "00", impl.BfForm}, {"the least all 1, and one of each", 2, "1111" + "000001" + "01", impl.BfForm}, {"all missing, and a least", 2, "0011" + "000001" + "11", impl.BfForm}, {"all missing, and a least and D 2", 3, "0000" + "000010" + "111111", impl.BfForm},
		{"as great as a missing one", 2, "0011" + "000100" + "0000" + "1100", impl.BfForm}, {"so, beside the greatest", 3, "0011" + "000100" + "0000" + "1011" + "1100", impl.BfForm}, {"greater", 2, "0011" + "000100" + "0000" + "1101", impl.BfForm}, {"greater, beside a missing one", 3, "0100" + "000100" + "0000" + "1110" + "1111", impl.BfForm}, {"the greatest", 2, "0011" + "000100" + "0000" + "1011", 0},
		{"greater by far", 2, "0000" + "111111" + "0" + ones[1:] + strings.Repeat("0", 63), impl.BfForm}, {"the greatest part of all", 2, "1110" + "111111" + ones[1:] + "0" + strings.Repeat("0", 63), impl.BfForm}, {"all of 63 bits missing", 2, "0011" + "111111" + ones + ones, impl.BfForm},
		// Bits that end are told ahead of what they say.
		{"no bits", 2, "", impl.BfShort}, {"all the same, a fill", 2, "0011" + "000000", 0}, {"ended in the least of all", 50, "", impl.BfShort}, {"ended ahead of the last row", 2, "0011" + "111111" + strings.Repeat("0", 63), impl.BfShort}, {"ended within the last row", 2, "0011" + "111111" + strings.Repeat("0", 118), impl.BfShort}, {"all 1, ended", 2, "1111" + "111111", impl.BfShort},
		{"a 1 in the fill", 2, "0011" + "000000" + "000001", impl.BfRest}, {"a byte too many", 2, "0011" + "000000" + "000000" + "00000000", impl.BfRest}, {"form ahead of the rest", 2, "0011" + "000001" + "00" + "1111", impl.BfForm},
	} {
		got, code := impl.DecodeMany(shortTable(), []int64{2}, c.rows, bytesOf(c.bits))
		want, told := decodeManyBySteps(shortTable(), []int64{2}, c.rows, bytesOf(c.bits))
		if code != c.code || told != c.code || !sameLists(got, want) {
			t.Errorf("%s: %v, %d (by steps %v, %d)", c.name, got, code, want, told)
		}
	}
	if _, code := impl.DecodeMany(shortTable(), []int64{1}, 2, []byte{0x01}); code != impl.BfShort {
		t.Error("ended ahead of D", code)
	}
	if _, code := impl.DecodeMany(shortTable(), []int64{201255, 1}, 2, nil); code != impl.BfWidth {
		t.Error("a width ahead of no bits", code)
	}
	if _, code := impl.DecodeMany(shortTable(), []int64{2, 201255, 1}, 2, bytesOf("0011"+"000001"+"00")); code != impl.BfForm {
		t.Error("the form ahead of a width", code)
	}
}

// rolledRows are rows for one plan; now and then one of them isn't right.
func rolledRows(d *dice, plan []int64) [][]float64 {
	rows := make([][]float64, []int64{1, 2, 3, 50, 1 + d.below(8)}[d.below(5)])
	first := rolledValues(d, plan)
	for i := range rows {
		rows[i] = rolledValues(d, plan)
		for at := range min(len(rows[i]), len(first)) {
			if d.below(2) == 0 {
				rows[i][at] = first[at]
			}
		}
		if d.below(3) > 0 {
			rows[i] = slices.Clone(first)
		}
	}
	return rows
}

func TestManyBySteps(t *testing.T) {
	d := dice(704)
	codes := map[int64]int{}
	for range 2500 {
		plan := rolledPlan(&d, d.below(9), false)
		rows := rolledRows(&d, plan)
		count := int64(len(rows))
		data, code := impl.EncodeMany(shortTable(), plan, rows)
		want, told := encodeManyBySteps(shortTable(), plan, rows)
		if code != told || !slices.Equal(data, want) {
			t.Fatalf("EncodeMany of %v by %v: %v, %d, not %v, %d", rows, plan, data, code, want, told)
		}
		given := [][]byte{data, data[:len(data)/2], append(slices.Clone(data), 0), times(int(d.below(40)), byte(d.below(256)))}
		for range 6 {
			spoilt := slices.Clone(data)
			if len(spoilt) > 0 {
				spoilt[d.below(int64(len(spoilt)))] ^= 1 << d.below(8)
			}
			given = append(given, spoilt)
		}
		for _, data := range given {
			got, code := impl.DecodeMany(shortTable(), plan, count, data)
			codes[code]++
			if want, told := decodeManyBySteps(shortTable(), plan, count, data); code != told || !sameLists(got, want) {
				t.Fatalf("DecodeMany of %d, %v by %v: %v, %d, not %v, %d", count, data, plan, got, code, want, told)
			}
		}
	}
	cameOften(t, codes, 0, 2, 3, 4, 6, 7)
}

// Promise 7: together or alone values are the same; no other bytes are read as them.
func TestTogetherOrAlone(t *testing.T) {
	d := dice(705)
	for range 1200 {
		plan := rolledPlan(&d, 1+d.below(6), false)
		rows := rolledRows(&d, plan)
		count := int64(len(rows))
		data, code := impl.EncodeMany(shortTable(), plan, rows)
		var alone [][]float64
		for _, values := range rows {
			bytes, told := impl.Encode(shortTable(), plan, values)
			if told != 0 {
				if code != told || len(data) != 0 {
					t.Fatalf("%v by %v: %d, and %d alone", rows, plan, code, told)
				}
				break
			}
			back, _ := impl.Decode(shortTable(), plan, bytes)
			alone = append(alone, back)
		}
		if len(alone) < len(rows) {
			continue
		}
		together, told := impl.DecodeMany(shortTable(), plan, count, data)
		if code != 0 || told != 0 || !sameLists(together, alone) {
			t.Fatalf("%v by %v: %v, and %v alone (%d, %d)", rows, plan, together, alone, code, told)
		}
		for _, other := range othersThan(data, &d) {
			if read, code := impl.DecodeMany(shortTable(), plan, count, other); code == 0 && sameLists(read, alone) {
				t.Fatalf("%v and %v by %v: both %v", data, other, plan, alone)
			}
		}
	}
}

// All bytes of two rows of one small Elem: just as many are read as there are values.
func TestEachByteOfTwoRows(t *testing.T) {
	table := []impl.Elem{{Code: 4, Width: 2}}
	read := map[string]bool{}
	for size := range 3 {
		for n := range 1 << (8 * size) {
			data := []byte{byte(n >> 8), byte(n)}[2-size:]
			rows, code := impl.DecodeMany(table, []int64{4}, 2, data)
			if _, told := decodeManyBySteps(table, []int64{4}, 2, data); code != told {
				t.Fatalf("%v: %d, not %d", data, code, told)
			}
			if code != 0 {
				continue
			}
			if again, code := impl.EncodeMany(table, []int64{4}, rows); code != 0 || !slices.Equal(again, data) {
				t.Fatalf("%v: %v, then %v, %d", data, rows, again, code)
			}
			read[fmt.Sprint(rows)] = true
		}
	}
	if len(read) != 16 {
		t.Error("kinds of rows:", len(read))
	}
}
