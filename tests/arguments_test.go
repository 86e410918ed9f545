package tests

import (
	"fmt"
	"maps"
	"math"
	"runtime"
	"slices"
	"strconv"
	"strings"
	"sync"
	"testing"
	"time"

	"loop.example/g00051/impl"
)

// roomy is a list with room behind it, in which something stands.
func roomy[T any](list []T, behind ...T) (within []T, whole []T) {
	whole = append(append([]T{}, list...), behind...)
	return whole[:len(list)], whole
}

func bitsOf(list []float64) []uint64 {
	bits := make([]uint64, len(list))
	for i, x := range list {
		bits[i] = math.Float64bits(x)
	}
	return bits
}

func lists() [][]float64 {
	return [][]float64{nil, {}, {1}, {none}, {3, 1, 2}, {none, 0, below0, high, -5, payload, low, 0.1, 0.2, 0.3}, filled(impl.MaxList, 2), filled(impl.MaxList+1, 2)}
}

func TestListsStayAsTheyWere(t *testing.T) {
	for _, list := range lists() {
		given, whole := roomy(list, 7, none, below0, -7)
		before := bitsOf(whole)
		sum, count := impl.Sum(given)
		mean := impl.Mean(given)
		ordered := bitsOf(impl.Order(given))
		if !slices.Equal(before, bitsOf(whole)) {
			t.Fatalf("a list of %d was written into", len(list))
		}
		sum2, count2 := impl.Sum(given)
		if !sameFloat(sum, sum2) || count != count2 || !sameFloat(mean, impl.Mean(given)) || !slices.Equal(ordered, bitsOf(impl.Order(given))) {
			t.Fatalf("a list of %d has two answers", len(list))
		}
		tight := append([]float64{}, list...)
		if !slices.Equal(ordered, bitsOf(impl.Order(tight[:len(tight):len(tight)]))) {
			t.Fatalf("a list of %d: the room behind it shows", len(list))
		}
	}
}

func TestOrderIsNewMemory(t *testing.T) {
	for _, list := range lists() {
		given, whole := roomy(list, 7, none, below0, -7)
		before := bitsOf(whole)
		first, second := impl.Order(given), impl.Order(given)
		kept := bitsOf(second)
		for i := range first {
			first[i] = 99
		}
		first = append(first, 99)
		if !slices.Equal(before, bitsOf(whole)) || !slices.Equal(kept, bitsOf(second)) {
			t.Fatalf("an answer of %d shares its memory", len(first)-1)
		}
	}
}

func TestSlotsAreNewMemory(t *testing.T) {
	s := impl.Span{From: 5, To: 500}
	first := impl.Slots(s, 30)
	kept := append([]int64{}, first...)
	second := impl.Slots(s, 30)
	for i := range second {
		second[i] = -1
	}
	if !slices.Equal(first, kept) || !slices.Equal(impl.Slots(s, 30), kept) {
		t.Error("answers share their memory")
	}
}

func TestWindsStayAsTheyWere(t *testing.T) {
	for _, list := range [][]impl.Wind{nil, {}, {{Dir: 9, Speed: 2}}, wrongWinds()[:10], someWinds(50, 3), someWinds(impl.MaxList, 4), someWinds(impl.MaxList+1, 4)} {
		given, whole := roomy(list, impl.Wind{Dir: 3, Speed: 1}, impl.Wind{Dir: 5, Speed: 2})
		before := slices.Clone(whole)
		first := impl.MeanWind(given)
		if !slices.Equal(before, whole) {
			t.Fatalf("a list of %d winds was written into", len(list))
		}
		if !samePair(first, impl.MeanWind(slices.Clip(slices.Clone(list)))) {
			t.Fatalf("a list of %d winds: the room behind it shows", len(list))
		}
	}
}

func TestBytesStayAsTheyWere(t *testing.T) {
	full, over := longTexts()
	for _, text := range append(someTexts(100), full, over) {
		given, whole := roomy([]byte(text), 0xA9, 'x', 0xFF, 0x80)
		before := string(whole)
		cleaned := impl.Clean(given)
		kept := strings.Clone(cleaned)
		if string(whole) != before {
			t.Fatalf("%.40q was written into", text)
		}
		for i := range whole {
			whole[i] = '#'
		}
		if cleaned != kept || cleaned != impl.Clean([]byte(text)) {
			t.Fatalf("%.40q: the answer shares its memory", text)
		}
	}
}

func TestLinesAreNewMemory(t *testing.T) {
	text := "wind from the abcdefghijkl and more of it"
	first := impl.Fold(text, 9)
	kept := slices.Clone(first)
	second := impl.Fold(text, 9)
	for i := range second {
		second[i] = "#"
	}
	if !slices.Equal(first, kept) || !slices.Equal(impl.Fold(text, 9), kept) {
		t.Error("answers share their memory")
	}
}

// askedTogether asks each round by itself, and then all of them again from several goroutines at once.
func askedTogether[T comparable](t *testing.T, rounds int, ask func(i int) T) {
	t.Helper()
	var first []T
	for i := range rounds {
		first = append(first, ask(i))
	}
	var all sync.WaitGroup
	for range 4 {
		all.Go(func() {
			for i := range first {
				if ask(i) != first[i] {
					t.Errorf("the answers of round %d changed", i)
				}
			}
		})
	}
	all.Wait()
}

// airAnswers has all that chapter 3 answers to these numbers.
func airAnswers(x, y float64, n, m int64) [9]uint64 {
	var a [9]uint64
	c, _ := impl.Convert(x, n, m)
	p := impl.MulPair(impl.AddPair(impl.Pair{Re: x, Im: y}, impl.Turn(n)), impl.ConjPair(impl.Pair{Re: y, Im: 1}))
	w := impl.WindPair(impl.Wind{Dir: n, Speed: y})
	for i, f := range []float64{c, impl.Vapour(x), impl.Humidity(x, y), impl.DewOf(x, y), p.Re, p.Im, w.Re, w.Im, impl.MeanWind(someWinds(int(n), dice(m))).Re} {
		a[i] = math.Float64bits(f)
	}
	return a
}

// textAnswers has all that chapter 4 answers to this text.
func textAnswers(text string, width int64) [6]string {
	h, code := impl.ReadHeading(text)
	line, ok := impl.HeadingText(h)
	says, number := impl.MarkOf(text)
	return [6]string{impl.Clean([]byte(text)), impl.Upper(text), strings.Join(impl.Fold(text, width), "\n"), h.Kind + h.Mark + strconv.FormatInt(code, 10), line + strconv.FormatBool(ok), strconv.FormatInt(says*1000+number, 10)}
}

func TestSameAirSameTexts(t *testing.T) {
	odd := append(oddNumbers(), 20, 9.5, -50, 50, 100)
	texts := append(someTexts(200), "SMDL01 AMMC 150600 CCB", "SMDL01 AMMC 150600", "PBA", "CCX")
	type row struct {
		air   [9]uint64
		texts [6]string
	}
	ask := func(i int) row {
		d := dice(i)
		x, y := odd[d.below(int64(len(odd)))], odd[d.below(int64(len(odd)))]
		return row{airAnswers(x, y, d.below(40), d.below(40)), textAnswers(texts[i%len(texts)], d.below(30))}
	}
	askedTogether(t, 1500, ask)
}

// levelBits holds levels by all their bits, so that a missing one is like itself.
func levelBits(levels []impl.Level) [][2]uint64 {
	bits := make([][2]uint64, len(levels))
	for i, l := range levels {
		bits[i] = [2]uint64{uint64(l.Press), math.Float64bits(l.Temp)}
	}
	return bits
}

func someAscents() [][]impl.Level {
	list := [][]impl.Level{nil, {}, zigzag(), evenAscent(impl.MaxLevels + 1)}
	for _, levels := range rightAscents() {
		list = append(list, levels)
	}
	for _, levels := range wrongAscents() {
		list = append(list, levels)
	}
	d := dice(71)
	for range 100 {
		list = append(list, rolledAscent(&d))
	}
	return list
}

// ascentAnswers has all that chapter 6 answers to these levels.
func ascentAnswers(levels []impl.Level) string {
	at, lapse := impl.LapseMost(levels)
	answers := []any{impl.AscentOk(levels), impl.Signif(levels, 0), impl.Signif(levels, 1.5), impl.Inversions(levels), at, math.Float64bits(lapse)}
	for _, press := range []int64{0, 1, 6000, 9950, 10000, 11999} {
		answers = append(answers, impl.Known(impl.Rebuild(levels, press)), impl.Told(impl.Rebuild(levels, press), 6))
	}
	if len(levels) > 1 {
		answers = append(answers, impl.Told(impl.Between(levels[0], levels[1], levels[0].Press/2+levels[1].Press/2), 6))
	}
	return fmt.Sprint(answers...)
}

func TestLevelsStayAsTheyWere(t *testing.T) {
	for _, levels := range someAscents() {
		given, whole := roomy(levels, impl.Level{Press: 3, Temp: 1}, impl.Level{Press: 2, Temp: none}, impl.Level{Press: 1, Temp: below0})
		before := levelBits(whole)
		answers := ascentAnswers(given)
		if !slices.Equal(before, levelBits(whole)) {
			t.Fatalf("%d levels were written into", len(levels))
		}
		if answers != ascentAnswers(slices.Clip(slices.Clone(levels))) {
			t.Fatalf("%d levels: the room behind them shows", len(levels))
		}
	}
}

func TestReportsAndAscentsAreNewMemory(t *testing.T) {
	const text = "10384 1O2I5 2x032 3//// 9 42705 30132="
	levels := warmths(20, 15, 18, 5, 0, 3, 4)
	_, faults, _ := impl.ReadObs(text)
	places, runs := impl.Signif(levels, 1), impl.Inversions(levels)
	keptFaults, keptPlaces, keptRuns := slices.Clone(faults), slices.Clone(places), slices.Clone(runs)
	if len(faults) == 0 || len(places) == 0 || len(runs) == 0 {
		t.Fatal("nothing to hold against", faults, places, runs)
	}
	_, otherFaults, _ := impl.ReadObs(text)
	otherPlaces, otherRuns := impl.Signif(levels, 1), impl.Inversions(levels)
	for i := range otherFaults {
		otherFaults[i] = impl.Fault{At: -9, Code: -9}
	}
	for i := range otherPlaces {
		otherPlaces[i] = -9
	}
	for i := range otherRuns {
		otherRuns[i] = impl.Span{From: -9, To: -9}
	}
	_, again, _ := impl.ReadObs(text)
	if !slices.Equal(faults, keptFaults) || !slices.Equal(again, keptFaults) {
		t.Error("faults share their memory")
	}
	if !slices.Equal(places, keptPlaces) || !slices.Equal(impl.Signif(levels, 1), keptPlaces) {
		t.Error("places share their memory")
	}
	if !slices.Equal(runs, keptRuns) || !slices.Equal(impl.Inversions(levels), keptRuns) {
		t.Error("runs share their memory")
	}
}

// reportAnswers has all that chapter 5 answers to this text.
func reportAnswers(text string) string {
	o, faults, code := impl.ReadObs(text)
	return fmt.Sprint(o, faults, code, impl.ObsOk(o), impl.ObsText(o), impl.Repair(text))
}

func TestSameReportsSameAscents(t *testing.T) {
	d := dice(72)
	ascents := someAscents()
	var texts []string
	for range 800 {
		texts = append(texts, rolledText(&d))
	}
	askedTogether(t, len(texts), func(i int) string {
		return reportAnswers(texts[i]) + ascentAnswers(ascents[i%len(ascents)])
	})
}

// tableCase is a call of chapter 7, with rows that are encoded one by one and together.
type tableCase struct {
	table []impl.Elem
	plan  []int64
	rows  [][]float64
	data  []byte
}

func tableCases() []tableCase {
	d := dice(901)
	list := []tableCase{{}, {table: shortTable(), rows: [][]float64{nil}}, {shortTable(), deepPlan(99, 255, 2), [][]float64{{1}, {2}}, []byte{1}}, {longTable(201), []int64{400}, [][]float64{{1}}, []byte{1}}}
	for i := range 150 {
		plan := rolledPlan(&d, d.below(8), i%2 == 0)
		rows := rolledRows(&d, plan)
		data, _ := impl.EncodeMany(shortTable(), plan, rows)
		if i%2 == 0 {
			data, _ = impl.Encode(shortTable(), plan, rows[0])
		}
		list = append(list, tableCase{shortTable(), plan, rows, data})
	}
	return list
}

// tableAnswers has all that chapter 7 answers to these arguments.
func tableAnswers(c tableCase) string {
	answers := []any{impl.PlanOk(c.table, c.plan)}
	for _, values := range c.rows {
		data, code := impl.Encode(c.table, c.plan, values)
		answers = append(answers, data, code)
	}
	values, code := impl.Decode(c.table, c.plan, c.data)
	many, manyCode := impl.EncodeMany(c.table, c.plan, c.rows)
	lists, listsCode := impl.DecodeMany(c.table, c.plan, int64(len(c.rows)), c.data)
	answers = append(answers, bitsOf(values), code, many, manyCode, listsCode)
	for _, list := range lists {
		answers = append(answers, bitsOf(list))
	}
	return fmt.Sprint(answers...)
}

func TestTablesStayAsTheyWere(t *testing.T) {
	for i, c := range tableCases() {
		table, wholeTable := roomy(c.table, impl.Elem{Code: 99999, Width: 9}, impl.Elem{Code: 3})
		plan, wholePlan := roomy(c.plan, 101002, 2, 201255)
		data, wholeData := roomy(c.data, 0, 0xFF, 7)
		given := tableCase{table: table, plan: plan, data: data}
		var wholes [][]float64
		for _, values := range c.rows {
			row, whole := roomy(values, 3, none, below0)
			given.rows, wholes = append(given.rows, row), append(wholes, whole)
		}
		before := fmt.Sprint(wholeTable, wholePlan, wholeData, given.rows, wholes)
		answers := tableAnswers(given)
		if fmt.Sprint(wholeTable, wholePlan, wholeData, given.rows, wholes) != before {
			t.Fatalf("case %d was written into", i)
		}
		if answers != tableAnswers(c) {
			t.Fatalf("case %d: the room behind it shows", i)
		}
	}
}

func TestRowsAreNewMemory(t *testing.T) {
	rows := [][]float64{{2.5, 3, none}, {1, 3, none}, {none, 3, 14}}
	plan := []int64{1, 102001, 2, 2}
	data, _ := impl.EncodeMany(shortTable(), plan, rows)
	kept := slices.Clone(data)
	lists, _ := impl.DecodeMany(shortTable(), plan, 3, data)
	for i := range data {
		data[i] = 0xAA
	}
	for row := range lists {
		before := fmt.Sprint(lists[(row+1)%3], lists[(row+2)%3])
		for i := range lists[row] {
			lists[row][i] = 99
		}
		_ = append(lists[row], 98, 97)
		if fmt.Sprint(lists[(row+1)%3], lists[(row+2)%3]) != before {
			t.Errorf("row %d shares its memory", row)
		}
	}
	again, code := impl.EncodeMany(shortTable(), plan, rows)
	if code != 0 || !slices.Equal(again, kept) {
		t.Error("bytes share their memory", again, code)
	}
	if lists, code := impl.DecodeMany(shortTable(), plan, 3, kept); code != 0 || !sameLists(lists, rows) {
		t.Error("values share their memory", lists, code)
	}
	one, _ := impl.Encode(shortTable(), plan, rows[0])
	values, _ := impl.Decode(shortTable(), plan, one)
	clear(one)
	if !sameList(values, rows[0]) {
		t.Error("what was read shares the bytes' memory", values)
	}
}

// gridCase is a call of chapter 8.
type gridCase struct {
	values    []float64
	list      []int64
	data      []byte
	bits, dec int64
}

func gridCases() []gridCase {
	d := dice(902)
	cases := []gridCase{{}, {values: []float64{high}, list: []int64{two40 + 1}, data: []byte{0}, bits: 1}, {values: make([]float64, 4097), list: make([]int64, 4097), bits: 1, dec: 1}}
	for range 150 {
		dec := d.below(10) - 3
		list := rolledRun(&d, d.below(40))
		data, _ := impl.PackRuns(list)
		cases = append(cases, gridCase{rolledField(&d, dec), list, data, 1 + d.below(24), dec})
	}
	return cases
}

// gridAnswers has all that chapter 8 answers to these arguments.
func gridAnswers(c gridCase) string {
	p, code := impl.Pack(c.values, c.bits, c.dec)
	values, ok := impl.Unpack(p)
	answers := []any{p, code, bitsOf(values), ok}
	data, ok := impl.PackRuns(c.list)
	answers = append(answers, data, ok)
	list, ok := impl.ReadRuns(c.data)
	answers = append(answers, list, ok)
	for steps := range int64(14) {
		packed, ok := impl.Wave(c.list, steps)
		list, right := impl.Unwave(c.list, steps)
		answers = append(answers, packed, ok, list, right)
	}
	return fmt.Sprint(answers...)
}

func TestGridsStayAsTheyWere(t *testing.T) {
	for i, c := range gridCases() {
		values, wholeValues := roomy(c.values, 3, none, below0)
		list, wholeList := roomy(c.list, 1<<50, -1, 7)
		data, wholeData := roomy(c.data, 0, 0xFF, 7)
		before := fmt.Sprint(bitsOf(wholeValues), wholeList, wholeData)
		answers := gridAnswers(gridCase{values, list, data, c.bits, c.dec})
		if fmt.Sprint(bitsOf(wholeValues), wholeList, wholeData) != before {
			t.Fatalf("case %d was written into", i)
		}
		if answers != gridAnswers(c) {
			t.Fatalf("case %d: the room behind it shows", i)
		}
		p, _ := impl.Pack(c.values, c.bits, c.dec)
		there, wholeThere := roomy(p.There, 1, 0, 2)
		codes, wholeCodes := roomy(p.Codes, 1, -1)
		given := p
		given.There, given.Codes = there, codes
		before = fmt.Sprint(wholeThere, wholeCodes)
		got, ok := impl.Unpack(given)
		want, right := impl.Unpack(p)
		if fmt.Sprint(wholeThere, wholeCodes) != before || ok != right || !sameList(got, want) {
			t.Fatalf("case %d: what was packed changed, or the room behind it shows", i)
		}
	}
}

func TestGridsAreNewMemory(t *testing.T) {
	for _, list := range [][]int64{{5}, {5, 6}, {5, 6, 8, 1, 0}} {
		for steps := int64(1); steps <= 12; steps++ {
			given := slices.Clone(list)
			packed, _ := impl.Wave(given, steps)
			back, _ := impl.Unwave(given, steps)
			kept, keptBack := slices.Clone(packed), slices.Clone(back)
			for i := range given {
				given[i] = 99
			}
			if !slices.Equal(packed, kept) || !slices.Equal(back, keptBack) {
				t.Errorf("the waves of %v in %d steps share its memory", list, steps)
			}
		}
	}
	p, _ := impl.Pack([]float64{1, none, 4}, 8, 0)
	values, _ := impl.Unpack(p)
	data, _ := impl.PackRuns([]int64{1, 2, 300})
	list, _ := impl.ReadRuns(data)
	clear(p.There)
	clear(p.Codes)
	clear(data)
	if !sameList(values, []float64{1, none, 4}) || !slices.Equal(list, []int64{1, 2, 300}) {
		t.Error("answers share their memory", values, list)
	}
	if again, _ := impl.Pack([]float64{1, none, 4}, 8, 0); !slices.Equal(again.There, []byte{1, 0, 1}) || !slices.Equal(again.Codes, []int64{0, 3}) {
		t.Error("answers share their memory", again)
	}
}

func TestSameTablesSameGrids(t *testing.T) {
	tables, grids := tableCases(), gridCases()
	askedTogether(t, len(tables), func(i int) string {
		return tableAnswers(tables[i]) + gridAnswers(grids[i%len(grids)])
	})
}

// roomyCentre is a centre whose lists have room behind them, in which something stands, and a text of all of it.
func roomyCentre(c impl.Centre) (given impl.Centre, told func() string) {
	given = c
	routes, wholeRoutes := roomy(c.Routes, routeOf("QQ", 9), routeOf("QR", 9))
	seen, wholeSeen := roomy(c.Seen, bulletinOf("QQ", "", "behind"), impl.Bulletin{})
	queues, wholeQueues := roomy(c.Queues, impl.Queue{Sub: 1001, Done: 3}, impl.Queue{Lost: 4})
	var wholeItems [][]impl.Item
	for i := range queues {
		items, whole := roomy(c.Queues[i].Items, itemOf(77, 2, headOf("QQ", ""), 1, 5), itemOf(78, 3, headOf("QR", ""), 0, 0))
		queues[i].Items, wholeItems = items, append(wholeItems, whole)
	}
	given.Routes, given.Seen, given.Queues = routes, seen, queues
	return given, func() string {
		return fmt.Sprint(wholeRoutes, wholeSeen, wholeQueues, wholeItems)
	}
}

func centreCases() []impl.Centre {
	list := []impl.Centre{{}, busyCentre()}
	rightChanges().each(func(name string, c impl.Centre) { list = append(list, c) })
	wrongChanges().each(func(name string, c impl.Centre) { list = append(list, c) })
	late := busyCentre()
	late.Now, late.Queues[0].Items[1].Tries = 110, 4
	return append(list, late, impl.Pass(busyCentre(), 10))
}

func bulletinCases() []impl.Bulletin {
	return []impl.Bulletin{{}, bulletinOf("SM", "CCC", "new"), bulletinOf("WW", "AAA", "new"), bulletinOf("QQ", "", "for nobody"), bulletinOf("SM", "", "one"), bulletinOf("SM", "", "clash"), bulletinOf("SM", "CCA", "late")}
}

// routingCalls has all that chapter 9 answers of this centre: the centres, and what comes with them.
func routingCalls(c impl.Centre) ([]impl.Centre, []any) {
	made, ok := impl.NewCentre(c.Routes)
	list, rest := []impl.Centre{made, impl.Pass(c, -1), impl.Pass(c, 5)}, []any{ok}
	for _, b := range bulletinCases() {
		next, code := impl.Accept(c, b)
		list, rest = append(list, next), append(rest, code)
	}
	for _, sub := range []int64{0, 2, 7, 1000} {
		sent, item, ok := impl.SendNext(c, sub)
		acked, right := impl.Acked(c, sub, 3)
		list, rest = append(list, sent, acked), append(rest, item, ok, right)
	}
	return list, rest
}

func routingAnswers(c impl.Centre) string {
	list, rest := routingCalls(c)
	return fmt.Sprint(list, rest)
}

func TestCentresStayAsTheyWere(t *testing.T) {
	for i, c := range centreCases() {
		given, told := roomyCentre(c)
		before := told()
		answers := routingAnswers(given)
		if told() != before {
			t.Fatalf("centre %d was written into", i)
		}
		if answers != routingAnswers(copyOf(c)) {
			t.Fatalf("centre %d: the room behind it shows", i)
		}
	}
}

// scribble writes over all that a centre holds, and into the room behind it.
func scribble(c impl.Centre) {
	for i := range c.Queues {
		items := c.Queues[i].Items
		for k := range items[:cap(items)] {
			items[:cap(items)][k] = itemOf(-9, -9, headOf("##", ""), -9, -9)
		}
	}
	for i := range c.Queues[:cap(c.Queues)] {
		c.Queues[:cap(c.Queues)][i] = impl.Queue{Sub: -9}
	}
	for i := range c.Routes[:cap(c.Routes)] {
		c.Routes[:cap(c.Routes)][i] = routeOf("##", -9)
	}
	for i := range c.Seen[:cap(c.Seen)] {
		c.Seen[:cap(c.Seen)][i] = bulletinOf("##", "", "#")
	}
}

func TestCentresAreNewMemory(t *testing.T) {
	for i, c := range centreCases() {
		given, told := roomyCentre(c)
		before := told()
		all, _ := routingCalls(given)
		for k := range all {
			list, _ := routingCalls(given)
			kept := fmt.Sprint(list[:k], list[k+1:])
			scribble(list[k])
			if told() != before {
				t.Fatalf("centre %d: answer %d shares its memory", i, k)
			}
			if fmt.Sprint(list[:k], list[k+1:]) != kept {
				t.Fatalf("centre %d: answer %d shares the memory of another", i, k)
			}
		}
	}
}

// No two lists of one answer share memory, nor does one grow into another.
func TestQueuesAreApart(t *testing.T) {
	for i, c := range centreCases() {
		list, _ := routingCalls(c)
		for k, next := range list {
			for n := range next.Queues {
				var rest []any
				for m, q := range next.Queues {
					if m != n {
						rest = append(rest, q)
					}
				}
				kept := fmt.Sprint(rest...)
				items := next.Queues[n].Items
				for m := range items[:cap(items)] {
					items[:cap(items)][m].Seq = -9
				}
				if fmt.Sprint(rest...) != kept {
					t.Fatalf("centre %d, answer %d: queue %d shares its memory", i, k, n)
				}
			}
		}
	}
}

// qualityCase is a call of chapter 10.
type qualityCase struct {
	rules  impl.Rules
	places []impl.Place
	reads  []impl.Read
	judged []impl.Judged
}

func qualityCases() []qualityCase {
	d := dice(903)
	cases := []qualityCase{{}, {mildRules(), rowOf(101), manyReads(1), nil}, {mildRules(), rowOf(1), manyReads(301), times(301, judgedOf(1, 2, 3, 0))}, {mildRules(), rowOf(1), manyReads(300), times(300, judgedOf(1, 2, 3, 0))}}
	for range 150 {
		rules, places := rolledRules(&d), rolledPlaces(&d)
		reads := rolledReads(&d, places, d.below(40))
		judged, _ := impl.Judge(rules, places, reads)
		cases = append(cases, qualityCase{rules, places, reads, judged})
	}
	return cases
}

// qualityAnswers has all that chapter 10 answers to these arguments.
func qualityAnswers(c qualityCase) string {
	judged, ok := impl.Judge(c.rules, c.places, c.reads)
	bias, count := impl.Bias(c.reads, c.reads[len(c.reads)/2:])
	return fmt.Sprint(judged, ok, impl.Kept(c.judged), math.Float64bits(bias), count)
}

func TestQualityStaysAsItWas(t *testing.T) {
	for i, c := range qualityCases() {
		given := c
		black, wholeBlack := roomy(c.rules.Black, 1, 2, 3)
		places, wholePlaces := roomy(c.places, siteOf(1, 2, 3), siteOf(99999, 0, 0))
		reads, wholeReads := roomy(c.reads, readOf(1, 0, 5), readOf(-1, -1, none))
		judged, wholeJudged := roomy(c.judged, judgedOf(1, 0, 5, 0), judgedOf(1, 0, below0, 0))
		given.rules.Black, given.places, given.reads, given.judged = black, places, reads, judged
		before := fmt.Sprint(wholeBlack, wholePlaces, wholeReads, wholeJudged)
		answers := qualityAnswers(given)
		if fmt.Sprint(wholeBlack, wholePlaces, wholeReads, wholeJudged) != before {
			t.Fatalf("case %d was written into", i)
		}
		if answers != qualityAnswers(c) {
			t.Fatalf("case %d: the room behind it shows", i)
		}
		first, _ := impl.Judge(given.rules, places, reads)
		kept := impl.Kept(judged)
		told := fmt.Sprint(first, kept)
		clear(wholeReads)
		clear(wholeJudged)
		if fmt.Sprint(first, kept) != told {
			t.Fatalf("case %d: the answers share their memory", i)
		}
	}
}

func TestSameRoutesSameQuality(t *testing.T) {
	centres, cases := centreCases(), qualityCases()
	askedTogether(t, len(cases), func(i int) string {
		return routingAnswers(centres[i%len(centres)]) + qualityAnswers(cases[i])
	})
}

// fieldCase is a call of each function of chapters 11 and 12.
type fieldCase struct {
	g                  impl.Grid
	values             []float64
	lat, lon           int64
	edges, amounts, to []int64
	box                impl.Box
	level              int64
	loop               impl.Loop
}

func fieldCases() []fieldCase {
	d := dice(1106)
	cases := []fieldCase{{}, {g: gridOf(2, 2, 0, 0, 1), values: times(3, 1.0), edges: riseFrom(0, 258), to: riseFrom(0, 2), box: boxOf(25, 1), loop: loopOf(0, 0, times(2001, int64(1))...)}}
	for _, wrong := range wrongLoops() {
		cases = append(cases, fieldCase{loop: wrong})
	}
	for range 150 {
		g := rolledGrid(&d)
		c := fieldCase{g: g, values: rolledGridValues(&d, g, 40), lat: g.South + d.below(g.Step*2), lon: g.West + d.below(g.Step*2)}
		c.edges, c.to = rolledEdges(&d, 2+d.below(9), 20), rolledEdges(&d, 2+d.below(9), 20)
		c.amounts = rolledAmounts(&d, len(c.edges)-1)
		c.box = boxOf(1+d.below(7), 1+d.below(7))
		for range c.box.Rows * c.box.Cols {
			c.box.Cells = append(c.box.Cells, d.below(3))
		}
		c.level = d.below(3)
		c.loop = loopOf(d.below(9), d.below(9))
		for range d.below(20) {
			c.loop.Dirs = append(c.loop.Dirs, d.below(4))
		}
		cases = append(cases, c)
	}
	return cases
}

// fieldAnswers has all that chapters 11 and 12 answer to these arguments.
func fieldAnswers(c fieldCase) string {
	moved, ok := impl.Remap(c.edges, c.amounts, c.to)
	var grads []float64
	for _, p := range impl.Grads(c.g, c.values) {
		grads = append(grads, p.Re, p.Im)
	}
	return fmt.Sprint(impl.GridOk(c.g), impl.At(c.g, c.values, c.lat, c.lon), bitsOf(impl.Smooth(c.g, c.values)), bitsOf(grads), moved, ok) +
		fmt.Sprint(impl.BoxOk(c.box), impl.Contours(c.box, c.level), impl.Area(c.loop), impl.Winds(c.loop, c.lat%9, c.lon%9), impl.Closed(c.loop))
}

func TestFieldsStayAsTheyWere(t *testing.T) {
	for i, c := range fieldCases() {
		given := c
		values, wholeValues := roomy(c.values, 7, none, below0)
		edges, wholeEdges := roomy(c.edges, 1000, 1001)
		amounts, wholeAmounts := roomy(c.amounts, 3, 4)
		to, wholeTo := roomy(c.to, 1000, 1001)
		cells, wholeCells := roomy(c.box.Cells, 5, -5)
		dirs, wholeDirs := roomy(c.loop.Dirs, 0, 9)
		given.values, given.edges, given.amounts, given.to, given.box.Cells, given.loop.Dirs = values, edges, amounts, to, cells, dirs
		told := func() string {
			return fmt.Sprint(bitsOf(wholeValues), wholeEdges, wholeAmounts, wholeTo, wholeCells, wholeDirs)
		}
		before := told()
		answers := fieldAnswers(given)
		if told() != before {
			t.Fatalf("case %d was written into", i)
		}
		if answers != fieldAnswers(c) {
			t.Fatalf("case %d: the room behind it shows", i)
		}
	}
}

func TestFieldsAreNewMemory(t *testing.T) {
	for i, c := range fieldCases() {
		before := fieldAnswers(c)
		smoothed, grads := impl.Smooth(c.g, c.values), impl.Grads(c.g, c.values)
		moved, _ := impl.Remap(c.edges, c.amounts, c.to)
		kept, _ := impl.Remap(c.edges, c.amounts, c.to)
		told := fmt.Sprint(kept)
		clear(smoothed[:cap(smoothed)])
		clear(grads[:cap(grads)])
		clear(moved[:cap(moved)])
		if fieldAnswers(c) != before || fmt.Sprint(kept) != told {
			t.Fatalf("case %d: the answers share their memory", i)
		}
	}
}

// No two loops of one answer share memory, nor does one grow into another.
func TestLoopsAreApart(t *testing.T) {
	for i, c := range fieldCases() {
		cells := slices.Clone(c.box.Cells)
		loops := impl.Contours(c.box, c.level)
		for k, l := range loops {
			rest := fmt.Sprint(loops[:k], loops[k+1:])
			for n := range l.Dirs[:cap(l.Dirs)] {
				l.Dirs[:cap(l.Dirs)][n] = -9
			}
			if fmt.Sprint(loops[:k], loops[k+1:]) != rest {
				t.Fatalf("case %d: loop %d shares its memory", i, k)
			}
		}
		if !slices.Equal(cells, c.box.Cells) {
			t.Fatalf("case %d: the loops share the box's memory", i)
		}
	}
}

func TestSameFieldsSameContours(t *testing.T) {
	cases := fieldCases()
	askedTogether(t, len(cases), func(i int) string { return fieldAnswers(cases[i]) })
}

// waterCase is a call of each function of chapters 13 and 14.
type waterCase struct {
	box, later       impl.Box
	level, cell      int64
	next, rain, most []int64
	book             impl.Book
	frames           [][]int64
	tracks           []impl.Track
}

func waterCases() []waterCase {
	d := dice(1305)
	cases := []waterCase{{}, {book: bookOf(1, 1), frames: [][]int64{nil, nil}}, {box: boxOf(25, 1), later: boxOf(1, 1, 1), next: times(577, int64(-1)), rain: times(577, int64(0)), frames: times(21, []int64{1}), tracks: times(1201, trackOf(1, 0, 0, 0, 1))}}
	for _, next := range wrongNexts() {
		cases = append(cases, waterCase{next: next, book: impl.Book{Water: times(len(next), int64(0))}, rain: times(len(next), int64(0)), most: next})
	}
	for range 200 {
		c := waterCase{box: rolledHeights(&d, 8), level: d.below(4) - 1, frames: rolledFrames(&d)}
		c.later = boxOf(c.box.Rows, c.box.Cols, shuffled(&d, c.box.Cells)...)
		c.next = heightsNext(c.box)
		c.cell = d.below(int64(len(c.next)))
		for range c.next {
			c.book.Water = append(c.book.Water, d.below(9))
			c.rain, c.most = append(c.rain, d.below(9)), append(c.most, d.below(9))
		}
		c.book.Out = d.below(9)
		c.book.Rained = totalOf(c.book.Water) + c.book.Out + d.below(8)/7
		c.tracks, _ = impl.Tracks(c.frames)
		cases = append(cases, c)
	}
	return cases
}

// waterAnswers has all that chapters 13 and 14 answer to these arguments.
func waterAnswers(c waterCase) string {
	heights, next := impl.Drain(c.box)
	counts, ok := impl.Catch(c.next)
	book, flowed := impl.FlowStep(c.next, c.book, c.rain)
	tracks, right := impl.Tracks(c.frames)
	i, j, moved := impl.Moved(c.box, c.level, c.later)
	return fmt.Sprint(heights, next, counts, ok, impl.OutletOf(c.next, c.cell), book, flowed, impl.Flood(c.book, c.most)) +
		fmt.Sprint(impl.Cells(c.box, c.level), tracks, right, impl.Longest(c.tracks), i, j, moved)
}

// roomyWaters is a case whose lists have room behind them, in which something stands, and a text of all of it.
func roomyWaters(c waterCase) (given waterCase, told func() string) {
	given = c
	var wholes [6][]int64
	given.box.Cells, wholes[0] = roomy(c.box.Cells, 5, -5)
	given.later.Cells, wholes[1] = roomy(c.later.Cells, 5, -5)
	given.next, wholes[2] = roomy(c.next, -1, 0, 1)
	given.rain, wholes[3] = roomy(c.rain, 3, 4)
	given.most, wholes[4] = roomy(c.most, -9, 0)
	given.book.Water, wholes[5] = roomy(c.book.Water, 7, 8)
	var wholeCells [][]int64
	frames, wholeFrames := roomy(c.frames, []int64{1}, []int64{-1})
	for k := range frames {
		places, whole := roomy(frames[k], 1, 2, 3)
		frames[k], wholeCells = places, append(wholeCells, whole)
	}
	tracks, wholeTracks := roomy(c.tracks, trackOf(9, 9, 9, 9, 9, 9, 9, 9, 9, 9, 9, 9, 9))
	for k := range tracks {
		cells, whole := roomy(tracks[k].Cells, 6, 7)
		tracks[k].Cells, wholeCells = cells, append(wholeCells, whole)
	}
	given.frames, given.tracks = frames, tracks
	return given, func() string { return fmt.Sprint(wholes, wholeFrames, wholeTracks, wholeCells) }
}

func TestWatersStayAsTheyWere(t *testing.T) {
	for i, c := range waterCases() {
		given, told := roomyWaters(c)
		before := told()
		answers := waterAnswers(given)
		if told() != before {
			t.Fatalf("case %d was written into", i)
		}
		if answers != waterAnswers(c) {
			t.Fatalf("case %d: the room behind it shows", i)
		}
	}
}

// waterLists are the lists that chapters 13 and 14 answer with.
func waterLists(c waterCase) [][]int64 {
	heights, next := impl.Drain(c.box)
	counts, _ := impl.Catch(c.next)
	book, _ := impl.FlowStep(c.next, c.book, c.rain)
	list := [][]int64{heights, next, counts, book.Water, impl.Flood(c.book, c.most), impl.Cells(c.box, c.level)}
	tracks, _ := impl.Tracks(c.frames)
	for _, tr := range tracks {
		list = append(list, tr.Cells)
	}
	return list
}

// What is written into an answer, and into the room behind it, shows neither in an argument nor in another list of the answers.
func TestWatersAreNewMemory(t *testing.T) {
	for i, c := range waterCases() {
		given, told := roomyWaters(c)
		before, answers := told(), waterAnswers(c)
		list := waterLists(given)
		for k, l := range list {
			rest := fmt.Sprint(list[:k], list[k+1:])
			for n := range l[:cap(l)] {
				l[:cap(l)][n] = -99
			}
			if fmt.Sprint(list[:k], list[k+1:]) != rest {
				t.Fatalf("case %d: answer %d shares the memory of another", i, k)
			}
		}
		if told() != before || waterAnswers(given) != answers {
			t.Fatalf("case %d: the answers share its memory", i)
		}
	}
}

// What is written into an argument behind the call shows in no answer.
func TestWatersAreNotKept(t *testing.T) {
	for i, c := range waterCases() {
		given, _ := roomyWaters(c)
		list := waterLists(given)
		kept := fmt.Sprint(list)
		for _, l := range append([][]int64{given.box.Cells, given.later.Cells, given.next, given.rain, given.most, given.book.Water}, given.frames...) {
			for n := range l[:cap(l)] {
				l[:cap(l)][n] = -99
			}
		}
		if fmt.Sprint(list) != kept {
			t.Fatalf("case %d: the answers share its memory", i)
		}
	}
}

func TestSameWatersSameStorms(t *testing.T) {
	cases := waterCases()
	askedTogether(t, len(cases), func(i int) string { return waterAnswers(cases[i]) })
}

// analysisCase is a call of each function of chapters 15 and 16.
type analysisCase struct {
	problem      impl.Problem
	x            []int64
	most, keep   int64
	values, vars []int64
	a, b         []int64
	row          []impl.Pair
}

func analysisCases() []analysisCase {
	d := dice(1608)
	cases := []analysisCase{{}, {values: times(6, int64(1)), vars: times(6, int64(1)), a: times(65, int64(0)), b: times(65, int64(0)), row: times(impl.MaxList, impl.Pair{Re: 1}), keep: math.MaxInt64}, {a: []int64{65537}, b: []int64{1}, row: times(impl.MaxList+1, impl.Pair{Re: 1}), keep: math.MinInt64}}
	for _, p := range wrongProblems() {
		cases = append(cases, analysisCase{problem: p, x: p.Guess, most: 9, values: p.Guess, vars: p.Trust, a: p.Guess, b: p.Trust})
	}
	for range 200 {
		c := analysisCase{problem: rolledProblem(&d, 500, 5), most: d.below(502), keep: d.below(22) - 2}
		c.x = rolledPoint(&d, c.problem, 500)
		for range 1 + d.below(5) {
			c.values, c.vars = append(c.values, d.below(1000)-500), append(c.vars, 1+d.below(100))
		}
		n := residueLengths[d.below(int64(len(residueLengths)))]
		c.a, c.b = rolledResidues(&d, n), rolledResidues(&d, n)
		c.row = rolledPairs(&d, waveLengths[d.below(int64(len(waveLengths)))], d.below(9))
		cases = append(cases, c)
	}
	p, x := slowProblem()
	return append(cases, analysisCase{problem: p, x: x, most: 500})
}

// analysisLists are the lists that chapters 15 and 16 answer with.
func analysisLists(c analysisCase) (moves []impl.Move, wholes [][]int64, rows [][]impl.Pair) {
	moves, _ = impl.Descend(c.problem, c.x, c.most)
	there, _ := impl.Spectrum(c.a)
	back, _ := impl.Unspectrum(c.a)
	mixed, _ := impl.Mixed(c.a, c.b)
	return moves, [][]int64{there, back, mixed}, [][]impl.Pair{impl.Waves(c.row), impl.Unwaves(c.row), impl.Cut(c.row, c.keep)}
}

// analysisAnswers has all that chapters 15 and 16 answer to these arguments.
func analysisAnswers(c analysisCase) string {
	over, under := impl.Blend(c.values, c.vars)
	_, descended := impl.Descend(c.problem, c.x, c.most)
	_, there := impl.Spectrum(c.a)
	_, back := impl.Unspectrum(c.a)
	_, mixed := impl.Mixed(c.a, c.b)
	moves, wholes, rows := analysisLists(c)
	return fmt.Sprint(impl.ProblemOk(c.problem), impl.Cost(c.problem, c.x), impl.Certified(c.problem, c.x), over, under, descended, there, back, mixed) +
		fmt.Sprint(impl.Energy(c.row), moves, wholes, rows)
}

// roomyAnalysis is a case whose lists have room behind them, in which something stands, and a text of all of it.
func roomyAnalysis(c analysisCase) (given analysisCase, told func() string) {
	given = c
	var wholes [7][]int64
	given.problem.Guess, wholes[0] = roomy(c.problem.Guess, 1, 2)
	given.problem.Trust, wholes[1] = roomy(c.problem.Trust, 1, 2)
	given.x, wholes[2] = roomy(c.x, 5, -5)
	given.values, wholes[3] = roomy(c.values, 3, 4)
	given.vars, wholes[4] = roomy(c.vars, 3, 4)
	given.a, wholes[5] = roomy(c.a, 7, 8, -9)
	given.b, wholes[6] = roomy(c.b, 7, 8, -9)
	row, wholeRow := roomy(c.row, impl.Pair{Re: 5, Im: 6}, impl.Pair{Re: none, Im: high})
	rows, wholeRows := roomy(c.problem.Rows, seen(1, 1, 1), seen(2, 2, 2))
	var wholeFactors [][]int64
	for k := range rows {
		factors, whole := roomy(rows[k].H, 1, 2, 3)
		rows[k].H, wholeFactors = factors, append(wholeFactors, whole)
	}
	given.row, given.problem.Rows = row, rows
	return given, func() string { return fmt.Sprint(wholes, wholeRow, wholeRows, wholeFactors) }
}

func TestProblemsAndRowsStayAsTheyWere(t *testing.T) {
	for i, c := range analysisCases() {
		given, told := roomyAnalysis(c)
		before := told()
		answers := analysisAnswers(given)
		if told() != before {
			t.Fatalf("case %d was written into", i)
		}
		if answers != analysisAnswers(c) {
			t.Fatalf("case %d: the room behind it shows", i)
		}
	}
}

// What is written into an answer, and into the room behind it, shows neither in an argument nor in another list of the answers nor in a later answer.
func TestMovesAndWavesAreNewMemory(t *testing.T) {
	for i, c := range analysisCases() {
		given, told := roomyAnalysis(c)
		before, answers := told(), analysisAnswers(c)
		moves, wholes, rows := analysisLists(given)
		kept := fmt.Sprint(wholes, rows)
		overwrite(moves, impl.Move{I: -99})
		if fmt.Sprint(wholes, rows) != kept {
			t.Fatalf("case %d: the moves share the memory of another answer", i)
		}
		for k, l := range wholes {
			rest := fmt.Sprint(wholes[:k], wholes[k+1:], rows)
			overwrite(l, -99)
			if fmt.Sprint(wholes[:k], wholes[k+1:], rows) != rest {
				t.Fatalf("case %d: answer %d shares the memory of another", i, k)
			}
		}
		for k, l := range rows {
			rest := fmt.Sprint(rows[:k], rows[k+1:])
			overwrite(l, impl.Pair{Re: -99, Im: -99})
			if fmt.Sprint(rows[:k], rows[k+1:]) != rest {
				t.Fatalf("case %d: row %d shares the memory of another", i, k)
			}
		}
		if told() != before || analysisAnswers(given) != answers {
			t.Fatalf("case %d: the answers share its memory", i)
		}
	}
}

// overwrite writes into a list and into the room behind it.
func overwrite[T any](list []T, with T) {
	for i := range list[:cap(list)] {
		list[:cap(list)][i] = with
	}
}

// What is written into an argument behind the call shows in no answer.
func TestProblemsAndRowsAreNotKept(t *testing.T) {
	for i, c := range analysisCases() {
		given, _ := roomyAnalysis(c)
		moves, wholes, rows := analysisLists(given)
		kept := fmt.Sprint(moves, wholes, rows)
		for _, l := range [][]int64{given.problem.Guess, given.problem.Trust, given.x, given.a, given.b} {
			overwrite(l, -99)
		}
		for _, r := range given.problem.Rows {
			overwrite(r.H, -99)
		}
		overwrite(given.problem.Rows, impl.Row{})
		overwrite(given.row, impl.Pair{Re: -99, Im: -99})
		if fmt.Sprint(moves, wholes, rows) != kept {
			t.Fatalf("case %d: the answers share its memory", i)
		}
	}
}

func TestSameProblemsSameWaves(t *testing.T) {
	cases := analysisCases()
	askedTogether(t, len(cases), func(i int) string { return analysisAnswers(cases[i]) })
}

// modelCase is a call of each function of chapters 17 and 18.
type modelCase struct {
	ring           impl.Ring
	winds          []int64
	workers, steps int64
	soil           impl.Soil
	temp, rain     int64
	members        []int64
	told           []impl.Prob
	a, b           []int64
	x              int64
}

func modelCases() []modelCase {
	d := dice(1806)
	cases := []modelCase{{}, {members: times(61, int64(0)), told: times(1001, impl.Prob{}), a: times(9, int64(0)), b: []int64{1}, workers: 1}}
	for _, r := range wrongRings() {
		cases = append(cases, modelCase{ring: r, winds: times(len(r.Mass), int64(1)), workers: 2, steps: 3, members: r.Mass, a: r.Mass, b: r.Tracer})
	}
	for _, s := range wrongSoils() {
		cases = append(cases, modelCase{soil: s, temp: 5, rain: 5})
	}
	for i := range 200 {
		c := modelCase{workers: d.below(10), steps: d.below(30) - 1, x: d.below(41) - 20}
		c.ring, c.winds = rolledRing(&d, 1+i)
		c.soil, c.temp, c.rain = rolledSoil(&d)
		c.members = rolledMembers(&d, 1+i%60, 20)
		c.told = rolledTold(&d, d.below(100))
		c.a, c.b = rolledMembers(&d, 1+i%8, 20), rolledMembers(&d, 1+i/8%8, 20)
		cases = append(cases, c)
	}
	return cases
}

// modelLists are the lists that chapters 17 and 18 answer with.
func modelLists(c modelCase) ([][]int64, []impl.Bin) {
	one, _ := impl.Advect(c.ring, c.winds, c.workers)
	many, _ := impl.RunRing(c.ring, c.winds, c.steps)
	still, _ := impl.RunRing(c.ring, c.winds, 0)
	return [][]int64{one.Mass, one.Tracer, many.Mass, many.Tracer, still.Mass, still.Tracer}, impl.Reliable(c.told)
}

// modelAnswers has all that chapters 17 and 18 answer to these arguments.
func modelAnswers(c modelCase) string {
	_, one := impl.Advect(c.ring, c.winds, c.workers)
	_, many := impl.RunRing(c.ring, c.winds, c.steps)
	mass, tracer := impl.Moment(c.ring)
	soil, stepped := impl.SoilStep(c.soil, c.temp, c.rain)
	text := impl.SoilText(c.soil)
	read, ok := impl.ReadSoil(text)
	reached, ways := impl.Permuted(c.a, c.b)
	lists, bins := modelLists(c)
	return fmt.Sprint(impl.RingOk(c.ring), one, many, mass, tracer, soil, stepped, text, read, ok, lists, bins) +
		fmt.Sprint(impl.Over(c.members, c.x), impl.Rank(c.members, c.x), impl.Crps(c.members, c.x), impl.Brier(c.told), impl.Table(c.told, c.x), reached, ways)
}

// roomyModel is a case whose lists have room behind them, in which something stands, and a text of all of it.
func roomyModel(c modelCase) (given modelCase, told func() string) {
	given = c
	var wholes [6][]int64
	given.ring.Mass, wholes[0] = roomy(c.ring.Mass, 5, -5)
	given.ring.Tracer, wholes[1] = roomy(c.ring.Tracer, 3, -3)
	given.winds, wholes[2] = roomy(c.winds, 128, -128)
	given.members, wholes[3] = roomy(c.members, 1, 2)
	given.a, wholes[4] = roomy(c.a, 7, 8, 9, 10, 11, 12, 13, 14)
	given.b, wholes[5] = roomy(c.b, 7, -9)
	list, wholeTold := roomy(c.told, probOf(50, true), probOf(-1, false))
	given.told = list
	return given, func() string { return fmt.Sprint(wholes, wholeTold) }
}

func TestRingsAndMembersStayAsTheyWere(t *testing.T) {
	for i, c := range modelCases() {
		given, told := roomyModel(c)
		before := told()
		answers := modelAnswers(given)
		if told() != before {
			t.Fatalf("case %d was written into", i)
		}
		if answers != modelAnswers(c) {
			t.Fatalf("case %d: the room behind it shows", i)
		}
	}
}

// What is written into an answer, and into the room behind it, shows neither in an argument nor in another list of the answers nor in a later answer.
func TestRingsAndBinsAreNewMemory(t *testing.T) {
	for i, c := range modelCases() {
		given, told := roomyModel(c)
		before, answers := told(), modelAnswers(c)
		lists, bins := modelLists(given)
		for k, l := range lists {
			rest := fmt.Sprint(lists[:k], lists[k+1:])
			overwrite(l, -99)
			if fmt.Sprint(lists[:k], lists[k+1:]) != rest {
				t.Fatalf("case %d: answer %d shares the memory of another", i, k)
			}
		}
		overwrite(bins, impl.Bin{Count: -99})
		if told() != before || modelAnswers(given) != answers {
			t.Fatalf("case %d: the answers share its memory", i)
		}
	}
}

// What is written into an argument behind the call shows in no answer.
func TestRingsAndMembersAreNotKept(t *testing.T) {
	for i, c := range modelCases() {
		given, _ := roomyModel(c)
		lists, bins := modelLists(given)
		kept := fmt.Sprint(lists, bins)
		for _, l := range [][]int64{given.ring.Mass, given.ring.Tracer, given.winds, given.members, given.a, given.b} {
			overwrite(l, -99)
		}
		overwrite(given.told, probOf(-99, true))
		if fmt.Sprint(lists, bins) != kept {
			t.Fatalf("case %d: the answers share its memory", i)
		}
	}
}

func TestSameRingsSameScores(t *testing.T) {
	cases := modelCases()
	askedTogether(t, len(cases), func(i int) string { return modelAnswers(cases[i]) })
}

// All workers have ended when a step answers: no goroutine is left over.
func TestNoWorkerIsLeft(t *testing.T) {
	before := runtime.NumGoroutine()
	r := ringOf(riseFrom(0, 200), times(200, int64(0)))
	for i := range int64(2000) {
		impl.Advect(r, times(200, int64(100)), 1+i%8)
	}
	// One that has said that it is done may be about to end.
	for range 5000 {
		if runtime.NumGoroutine() <= before {
			return
		}
		time.Sleep(time.Millisecond)
	}
	t.Error(runtime.NumGoroutine(), "goroutines, where there were", before)
}

// climateCase is a call of each function of chapters 19 and 20.
type climateCase struct {
	series              []int64
	k, num, den         int64
	base, level         int64
	years               [][]int64
	parts               []impl.Constituent
	hour, hours, turned int64
	table               []float64
	speed               int64
}

func climateCases() []climateCase {
	d := dice(2009)
	cases := []climateCase{{}, {table: filled(impl.MaxList+1, 1), hours: impl.MaxList + 1}, {table: filled(impl.MaxList, 1), hours: impl.MaxList, parts: times(40, partOf(3, 1, 2))}}
	for _, series := range wrongSeries() {
		cases = append(cases, climateCase{series: series, k: 1, num: 1, den: 2, years: [][]int64{series}, table: filled(35, 1), speed: 3})
	}
	for _, parts := range wrongParts() {
		cases = append(cases, climateCase{parts: parts, hour: 5, hours: 5, turned: 5, years: [][]int64{{1, 2}, {1}}, table: filled(36, 1), speed: 18})
	}
	for i, series := range someSeries(2010, 150) {
		c := climateCase{series: series, k: d.below(20), num: d.below(12), den: d.below(12), base: d.below(9) - 4, level: d.below(9) - 4, years: rolledYears(&d)}
		c.parts, c.hour, c.hours, c.turned = rolledParts(&d, i%41, d.below(4)), d.below(201)-100, d.below(100), d.below(201)-100
		c.table, c.speed = rolledTable(&d, d.below(4)), 1+d.below(17)
		cases = append(cases, c)
	}
	return cases
}

// climateLists are the lists that chapters 19 and 20 answer with.
func climateLists(c climateCase) ([][]int64, []float64, []impl.Constituent) {
	stepped, _ := impl.Homogen(c.series)
	normals, _ := impl.Normals(c.years)
	return [][]int64{stepped, normals, impl.Highs(c.table)}, impl.HeightTable(c.parts, c.hour, c.hours), impl.Rotate(c.parts, c.turned)
}

// climateAnswers has all that chapters 19 and 20 answer to these arguments.
func climateAnswers(c climateCase) string {
	stat, found := impl.OrderStat(c.series, c.k)
	share, shared := impl.Share(c.series, c.num, c.den)
	at, long := impl.Spell(c.series, c.level)
	k, off := impl.Break(c.series)
	_, step := impl.Homogen(c.series)
	_, ok := impl.Normals(c.years)
	over, under := impl.Returns(c.series, c.level)
	lists, table, rotated := climateLists(c)
	return fmt.Sprint(stat, found, share, shared, impl.Degrees(c.series, c.base), at, long, k, off, step, ok, over, under) +
		fmt.Sprint(lists, table, rotated, impl.Height(c.parts, c.hour), impl.Analyse(c.table, c.speed))
}

// roomyClimate is a case whose lists have room behind them, in which something stands, and a text of all of it.
func roomyClimate(c climateCase) (given climateCase, told func() string) {
	given = c
	series, wholeSeries := roomy(c.series, 5, -5, 77)
	parts, wholeParts := roomy(c.parts, partOf(1, 2, 3), partOf(101, none, high))
	table, wholeTable := roomy(c.table, 9, none, below0)
	years, wholeYears := roomy(c.years, []int64{1, 2}, nil)
	var wholes [][]int64
	for i := range years {
		year, whole := roomy(years[i], 3, -3)
		years[i], wholes = year, append(wholes, whole)
	}
	given.series, given.parts, given.table, given.years = series, parts, table, years
	return given, func() string { return fmt.Sprint(wholeSeries, wholeParts, wholeTable, wholeYears, wholes) }
}

func TestSeriesAndTidesStayAsTheyWere(t *testing.T) {
	for i, c := range climateCases() {
		given, told := roomyClimate(c)
		before := told()
		answers := climateAnswers(given)
		if told() != before {
			t.Fatalf("case %d was written into", i)
		}
		if answers != climateAnswers(c) {
			t.Fatalf("case %d: the room behind it shows", i)
		}
	}
}

// What is written into an answer, and into the room behind it, shows neither in an argument nor in another list of the answers nor in a later answer.
func TestSeriesAndTidesAreNewMemory(t *testing.T) {
	for i, c := range climateCases() {
		given, told := roomyClimate(c)
		before, answers := told(), climateAnswers(c)
		lists, table, rotated := climateLists(given)
		for k, l := range lists {
			rest := fmt.Sprint(lists[:k], lists[k+1:])
			overwrite(l, -99)
			if fmt.Sprint(lists[:k], lists[k+1:]) != rest {
				t.Fatalf("case %d: answer %d shares the memory of another", i, k)
			}
		}
		overwrite(table, -99)
		overwrite(rotated, partOf(-99, -99, -99))
		if told() != before || climateAnswers(given) != answers {
			t.Fatalf("case %d: the answers share its memory", i)
		}
	}
}

// What is written into an argument behind the call shows in no answer, and in none that is asked for anew.
func TestSeriesAndTidesAreNotKept(t *testing.T) {
	for i, c := range climateCases() {
		answers := climateAnswers(c)
		given, _ := roomyClimate(c)
		lists, table, rotated := climateLists(given)
		kept := fmt.Sprint(lists, table, rotated)
		overwrite(given.series, -99)
		overwrite(given.parts, partOf(-99, -99, -99))
		overwrite(given.table, -99)
		for _, year := range given.years {
			overwrite(year, -99)
		}
		overwrite(given.years, nil)
		if fmt.Sprint(lists, table, rotated) != kept {
			t.Fatalf("case %d: the answers share its memory", i)
		}
		climateAnswers(given)
		if climateAnswers(c) != answers {
			t.Fatalf("case %d: what was asked between shows", i)
		}
	}
}

func TestSameSeriesSameTides(t *testing.T) {
	cases := climateCases()
	askedTogether(t, len(cases), func(i int) string { return climateAnswers(cases[i]) })
}

// flightCase is a call of each function of chapters 21 and 22.
type flightCase struct {
	a, b            impl.Sky
	taf             impl.Taf
	text            string
	ref, at         int64
	series, on, off []int64
	hold            int64
	area            []impl.Spot
	p               impl.Spot
	desk            impl.Desk
	warning         impl.Warning
	now             int64
}

func flightCases() []flightCase {
	d := dice(2206)
	cases := []flightCase{{}, {taf: morning(), text: morningText, ref: midnight, at: clockAt(10, 0), desk: fullDesk(), warning: manyWarnings(1)[0], now: 150}}
	for _, s := range wrongSkies() {
		cases = append(cases, flightCase{a: s, b: fullSky(), taf: impl.Taf{Centre: "AMMC", Sky: s}, text: "TAF AMMC=", series: []int64{1}, on: []int64{1, 1}, off: []int64{0, 0}, hold: 1})
	}
	wrong := wrongDesks()
	for _, name := range slices.Sorted(maps.Keys(wrong)) {
		desk := busyDesk()
		wrong[name](&desk)
		cases = append(cases, flightCase{desk: desk, warning: someWarning(), area: desk.Places, now: 150})
	}
	for i := range 150 {
		c := flightCase{a: rolledSky(&d), b: sixteenSkies(rolledSky(&d))[i%16], taf: rolledTaf(&d), hold: 1 + d.below(4), now: d.below(130)}
		c.text, c.ref, c.at = impl.TafText(c.taf), c.taf.Issued, c.taf.Valid.From+d.below(300)
		c.series = rolledMembers(&d, 1+i%60, 12)
		c.on, c.off = rolledBounds(&d)
		c.area, c.p = rolledArea(&d, 5), spotAt(d.below(9)-4, d.below(9)-4)
		c.desk, c.warning = impl.Desk{Places: rolledArea(&d, 8)[:3]}, rolledWarning(&d)
		for range d.below(12) {
			c.desk, _ = impl.Announce(c.desk, rolledWarning(&d))
			c.desk, _ = impl.Notify(c.desk, d.below(130))
		}
		cases = append(cases, c)
	}
	return cases
}

// answered is a list of an answer: what it says, and a way to write over it.
type answered struct {
	text  func() string
	write func()
}

func answeredBy[T any](list []T, with T) answered {
	return answered{func() string { return fmt.Sprint(list) }, func() { overwrite(list, with) }}
}

// flightLists are the lists that chapters 21 and 22 answer with.
func flightLists(c flightCase) []answered {
	read, _ := impl.ReadTaf(c.text, c.ref)
	_, may, _ := impl.StateAt(c.taf, c.at)
	levels, _ := impl.Levels(c.series, c.on, c.off, c.hold)
	announced, _ := impl.Announce(c.desk, c.warning)
	notified, news := impl.Notify(c.desk, c.now)
	lists := []answered{
		answeredBy(read.Changes, impl.Change{Kind: -99}), answeredBy(may, impl.Sky{Dir: -99}), answeredBy(impl.Parts(c.taf), impl.Span{From: -99}),
		answeredBy(levels, -99), answeredBy(news, impl.Notice{Place: -99}),
	}
	return slices.Concat(lists, listsOfDesk(announced), listsOfDesk(notified))
}

// listsOfDesk has the areas of warnings by themselves.
func listsOfDesk(d impl.Desk) []answered {
	lists := []answered{answeredBy(d.Places, spotAt(-99, -99)), answeredBy(d.Told, impl.Notice{Place: -99}), answeredBy(d.Last, impl.Warning{Id: -99})}
	lists[2].text = func() string {
		bare := slices.Clone(d.Last)
		for i := range bare {
			bare[i].Area = nil
		}
		return fmt.Sprint(bare)
	}
	for _, w := range d.Last {
		lists = append(lists, answeredBy(w.Area, spotAt(-99, -99)))
	}
	return lists
}

func textsOf(lists []answered) []string {
	var texts []string
	for _, l := range lists {
		texts = append(texts, l.text())
	}
	return texts
}

// flightAnswers has all that chapters 21 and 22 answer to these arguments.
func flightAnswers(c flightCase) string {
	read, ok := impl.ReadTaf(c.text, c.ref)
	holds, may, there := impl.StateAt(c.taf, c.at)
	levels, levelled := impl.Levels(c.series, c.on, c.off, c.hold)
	announced, code := impl.Announce(c.desk, c.warning)
	notified, news := impl.Notify(c.desk, c.now)
	return fmt.Sprint(impl.SkyOk(c.a), impl.SkyText(c.a), impl.Laid(c.a, c.b), impl.TafOk(c.taf), impl.TafText(c.taf), read, ok, holds, may, there, impl.Parts(c.taf), impl.WorstSight(c.taf)) +
		fmt.Sprint(levels, levelled, impl.Inside(c.area, c.p), announced, code, notified, news)
}

// roomyFlight is a case whose lists have room behind them, in which something stands, and a text of all of it.
func roomyFlight(c flightCase) (given flightCase, told func() string) {
	given = c
	var wholes [3][]int64
	given.series, wholes[0] = roomy(c.series, 5, -5)
	given.on, wholes[1] = roomy(c.on, 1000, 2000)
	given.off, wholes[2] = roomy(c.off, 900, -900)
	changes, wholeChanges := roomy(c.taf.Changes, impl.Change{Kind: 1}, impl.Change{Kind: 3, From: 60})
	area, wholeArea := roomy(c.area, spotAt(7, 7), spotAt(8, -8))
	warned, wholeWarned := roomy(c.warning.Area, spotAt(7, 7), spotAt(8, -8))
	places, wholePlaces := roomy(c.desk.Places, spotAt(1, 2), spotAt(3, 4))
	news, wholeNews := roomy(c.desk.Told, noticeOf(3, 3, 3, 3), noticeOf(4, 4, 4, 4))
	last, wholeLast := roomy(c.desk.Last, someWarning(), impl.Warning{Id: 99})
	var areas [][]impl.Spot
	for i := range last {
		spots, whole := roomy(last[i].Area, spotAt(7, 7), spotAt(8, -8))
		last[i].Area, areas = spots, append(areas, whole)
	}
	given.taf.Changes, given.area, given.warning.Area = changes, area, warned
	given.desk = impl.Desk{Places: places, Last: last, Told: news}
	return given, func() string {
		return fmt.Sprint(wholes, wholeChanges, wholeArea, wholeWarned, wholePlaces, wholeNews, wholeLast, areas)
	}
}

func TestForecastsAndDesksStayAsTheyWere(t *testing.T) {
	for i, c := range flightCases() {
		given, told := roomyFlight(c)
		before := told()
		answers := flightAnswers(given)
		if told() != before {
			t.Fatalf("case %d was written into", i)
		}
		if answers != flightAnswers(c) {
			t.Fatalf("case %d: the room behind it shows", i)
		}
	}
}

// What is written into an answer, and into the room behind it, shows neither in an argument nor in another list of the answers nor in a later answer.
func TestForecastsAndDesksAreNewMemory(t *testing.T) {
	for i, c := range flightCases() {
		given, told := roomyFlight(c)
		before, answers := told(), flightAnswers(c)
		lists := flightLists(given)
		for k, l := range lists {
			rest := slices.Concat(textsOf(lists[:k]), textsOf(lists[k+1:]))
			l.write()
			if !slices.Equal(slices.Concat(textsOf(lists[:k]), textsOf(lists[k+1:])), rest) {
				t.Fatalf("case %d: answer %d shares the memory of another", i, k)
			}
		}
		if told() != before || flightAnswers(given) != answers {
			t.Fatalf("case %d: the answers share its memory", i)
		}
	}
}

// What is written into an argument behind the call shows in no answer, and in none that is asked for anew.
func TestForecastsAndDesksAreNotKept(t *testing.T) {
	for i, c := range flightCases() {
		answers := flightAnswers(c)
		given, _ := roomyFlight(c)
		lists := flightLists(given)
		kept := textsOf(lists)
		for _, l := range [][]int64{given.series, given.on, given.off} {
			overwrite(l, -99)
		}
		overwrite(given.taf.Changes, impl.Change{Kind: -99})
		for _, w := range given.desk.Last {
			overwrite(w.Area, spotAt(-99, -99))
		}
		for _, l := range [][]impl.Spot{given.area, given.warning.Area, given.desk.Places} {
			overwrite(l, spotAt(-99, -99))
		}
		overwrite(given.desk.Last, impl.Warning{Id: -99})
		overwrite(given.desk.Told, noticeOf(-99, -99, -99, -99))
		if !slices.Equal(textsOf(lists), kept) {
			t.Fatalf("case %d: the answers share its memory", i)
		}
		flightAnswers(given)
		if flightAnswers(c) != answers {
			t.Fatalf("case %d: what was asked between shows", i)
		}
	}
}

func TestSameForecastsSameDesks(t *testing.T) {
	cases := flightCases()
	askedTogether(t, len(cases), func(i int) string { return flightAnswers(cases[i]) })
}

// suiteCase is a call of each function of chapters 23 and 24.
type suiteCase struct {
	say     impl.Say
	tongue  int64
	text    string
	most    int64
	speed   float64
	suite   impl.Suite
	run     impl.Run
	task, n int64
	well    bool
}

func suiteCases(t *testing.T) []suiteCase {
	t.Helper()
	d := dice(2405)
	cases := []suiteCase{{}, {tongue: 1, text: "calm. dry.", most: 4, speed: 8, suite: chainSuite(60), run: busyRun(), task: 2, n: 100}, {text: strings.Repeat("a", 20001), most: 1, speed: none, suite: chainSuite(61), run: impl.Run{Suite: chainSuite(61)}}}
	for _, name := range slices.Sorted(maps.Keys(wrongRuns())) {
		c := suiteCase{run: busyRun(), tongue: 2, say: sayOf(0, 1, 1, 1, 1), text: name, most: 9, speed: -1, task: 2, n: 20}
		wrongRuns()[name](&c.run)
		c.suite = c.run.Suite
		cases = append(cases, c)
	}
	for _, name := range slices.Sorted(maps.Keys(rightRuns())) {
		c := suiteCase{run: busyRun(), tongue: 3, say: sayOf(1, 1, 1, 1, 1), text: "cisza. sucho.", most: 7, speed: 3, task: 2, n: 20}
		rightRuns()[name](&c.run)
		c.suite = c.run.Suite
		cases = append(cases, c)
	}
	winds := allWinds()
	for i := range 150 {
		c := suiteCase{say: winds[d.below(13*97)], tongue: int64(i % 5), most: d.below(40), speed: float64(d.below(500)) / 10, suite: rolledSuite(&d), n: d.below(60), well: i%2 == 0}
		c.text = impl.Phrase(c.say, c.tongue) + strings.Repeat(" ", i%4/3)
		c.run, _ = impl.NewRun(c.suite)
		l := ledger{map[int64]int{}, map[int64]int{}, map[int64]int{}}
		for range d.below(60) {
			c.run = l.step(t, &d, c.run)
		}
		c.task = d.below(int64(len(c.suite.Tasks)) + 2)
		if list := running(c.run); len(list) > 0 {
			c.task = list[0]
		}
		cases = append(cases, c)
	}
	// Two tasks whose lists are one.
	shared := []int64{1, 2}
	s := impl.Suite{Limits: []int64{2}, Tasks: []impl.Task{taskOf(1, 5, 2), taskOf(1, 6, 2), {After: shared, Group: 1, Late: 7, Most: 1}, {After: shared, Group: 1, Late: 8, Most: 1}, {After: shared[:1], Group: 1, Most: 1}}}
	return append(cases, suiteCase{suite: s, run: impl.Run{Suite: s, Tasks: []impl.Job{jobOf(impl.JRun, 2), jobOf(impl.JDone, 1), {}, {}, {}}}, task: 1, n: 9})
}

// suiteRuns are the runs that chapter 24 answers with.
func suiteRuns(c suiteCase) []impl.Run {
	fresh, _ := impl.NewRun(c.suite)
	started, _ := impl.StartTasks(c.run)
	reported, _ := impl.Report(c.run, c.task, c.well)
	refused, _ := impl.Report(c.run, 0, c.well)
	ticked, _ := impl.TickRun(c.run, c.n)
	return []impl.Run{fresh, started, reported, refused, impl.CrashRun(c.run), ticked}
}

// suiteLists are the lists that chapter 24 answers with.
func suiteLists(c suiteCase) []answered {
	_, started := impl.StartTasks(c.run)
	_, late := impl.TickRun(c.run, c.n)
	lists := []answered{answeredBy(started, -99), answeredBy(late, -99), answeredBy(impl.Stuck(c.run), -99)}
	for _, r := range suiteRuns(c) {
		lists = append(lists, listsOfRun(r)...)
	}
	return lists
}

// listsOfRun has what tasks come behind by itself.
func listsOfRun(r impl.Run) []answered {
	lists := []answered{answeredBy(r.Tasks, jobOf(-99, -99)), answeredBy(r.Suite.Limits, -99), answeredBy(r.Suite.Tasks, impl.Task{Group: -99})}
	lists[2].text = func() string {
		bare := slices.Clone(r.Suite.Tasks)
		for i := range bare {
			bare[i].After = nil
		}
		return fmt.Sprint(bare)
	}
	for _, task := range r.Suite.Tasks {
		lists = append(lists, answeredBy(task.After, -99))
	}
	return lists
}

// suiteAnswers has all that chapters 23 and 24 answer to these arguments.
func suiteAnswers(c suiteCase) string {
	say, read := impl.ReadPhrase(c.text, c.tongue)
	_, fresh := impl.NewRun(c.suite)
	_, started := impl.StartTasks(c.run)
	_, reported := impl.Report(c.run, c.task, c.well)
	_, late := impl.TickRun(c.run, c.n)
	return fmt.Sprintf("%q %v %v %q %v", impl.Phrase(c.say, c.tongue), say, read, impl.Title(c.text, c.most), impl.Beaufort(c.speed)) +
		fmt.Sprint(impl.SuiteOk(c.suite), fresh, started, reported, late, impl.Stuck(c.run), suiteRuns(c))
}

// roomySuite is a suite whose lists have room behind them, in which something stands, and a text of all of it.
func roomySuite(s impl.Suite) (given impl.Suite, told func() string) {
	limits, wholeLimits := roomy(s.Limits, 3, -3)
	tasks, wholeTasks := roomy(s.Tasks, taskOf(1, 0, 1), taskOf(9, 9, 9, 1))
	var wholes [][]int64
	for i := range tasks {
		after, whole := roomy(tasks[i].After, 77, 1)
		tasks[i].After, wholes = after, append(wholes, whole)
	}
	return impl.Suite{Tasks: tasks, Limits: limits}, func() string { return fmt.Sprint(wholeLimits, wholeTasks, wholes) }
}

func roomyRun(c suiteCase) (given suiteCase, told func() string) {
	given = c
	suite, toldSuite := roomySuite(c.suite)
	ran, toldRan := roomySuite(c.run.Suite)
	jobs, wholeJobs := roomy(c.run.Tasks, jobOf(impl.JRun, 1), jobOf(9, 9))
	given.suite, given.run = suite, impl.Run{Suite: ran, Now: c.run.Now, Tasks: jobs}
	return given, func() string { return toldSuite() + toldRan() + fmt.Sprint(wholeJobs) }
}

func TestPhrasesAndRunsStayAsTheyWere(t *testing.T) {
	for i, c := range suiteCases(t) {
		given, told := roomyRun(c)
		before := told()
		answers := suiteAnswers(given)
		if told() != before {
			t.Fatalf("case %d was written into", i)
		}
		if answers != suiteAnswers(c) {
			t.Fatalf("case %d: the room behind it shows", i)
		}
	}
}

// What is written into an answer, and into the room behind it, shows neither in an argument nor in another list of the answers nor in a later answer.
func TestPhrasesAndRunsAreNewMemory(t *testing.T) {
	for i, c := range suiteCases(t) {
		given, told := roomyRun(c)
		before, answers := told(), suiteAnswers(c)
		for _, own := range []suiteCase{given, c} {
			lists := suiteLists(own)
			texts := textsOf(lists)
			for k, l := range lists {
				if l.text() != texts[k] {
					t.Fatalf("case %d: answer %d shares the memory of one ahead of it", i, k)
				}
				l.write()
			}
		}
		if told() != before || suiteAnswers(given) != answers || suiteAnswers(c) != answers {
			t.Fatalf("case %d: the answers share its memory", i)
		}
	}
}

// What is written into an argument behind the call shows in no answer, and in none that is asked for anew.
func TestPhrasesAndRunsAreNotKept(t *testing.T) {
	for i, c := range suiteCases(t) {
		answers := suiteAnswers(c)
		given, _ := roomyRun(c)
		lists := suiteLists(given)
		kept := textsOf(lists)
		for _, l := range append(listsOfRun(given.run), listsOfRun(impl.Run{Suite: given.suite})...) {
			l.write()
		}
		if !slices.Equal(textsOf(lists), kept) {
			t.Fatalf("case %d: the answers share its memory", i)
		}
		suiteAnswers(given)
		if suiteAnswers(c) != answers {
			t.Fatalf("case %d: what was asked between shows", i)
		}
	}
}

func TestSamePhrasesSameRuns(t *testing.T) {
	cases := suiteCases(t)
	askedTogether(t, len(cases), func(i int) string { return suiteAnswers(cases[i]) })
}

type archiveCase struct {
	archive       []impl.Entry
	entry         impl.Entry
	request       impl.Request
	text, script  string
	budget, slots int64
}

func archiveCases() []archiveCase {
	d := dice(2701)
	few := manyEntries(5)
	cases := []archiveCase{
		{}, {archive: few, entry: few[2], request: keyOf(few[3]), text: "param=t/u,step=0/to/12/by/6,level=5/4,time=2000-01-02T00:00Z", script: "station 1 0 0\nreport 00001 10105 40501=\njudge\ntext 1\n", budget: 4, slots: 2},
		{archive: manyEntries(300), entry: manyEntries(300)[150], request: rightRequests()["40 of each"], text: "level=0/to/39", script: "x", budget: impl.MaxClock, slots: 100}, {archive: manyEntries(300), entry: entryOf("q", 1, 1, 1, 1), text: strings.Repeat("a", 20001), script: strings.Repeat("x", 20001), budget: -1}, {archive: manyEntries(301), entry: few[0], text: "step=6/to/5", slots: 1, budget: 9},
	}
	for _, name := range slices.Sorted(maps.Keys(wrongArchives())) {
		cases = append(cases, archiveCase{archive: wrongArchives()[name], entry: few[1], request: keyOf(few[1]), text: name, script: name + "\n", budget: 300, slots: 3})
	}
	for _, name := range slices.Sorted(maps.Keys(wrongRequests())) {
		cases = append(cases, archiveCase{archive: few, entry: few[4], request: wrongRequests()[name], text: "level=0/to/40", script: "get x\n", budget: 1, slots: 1})
	}
	for i := range 150 {
		c := archiveCase{archive: manyEntries(int(d.below(40))), entry: rolledEntry(&d), request: rolledRequest(&d), text: rolledRequestText(&d), script: scriptOf(rolledScript(&d, d.below(30))), budget: d.below(60), slots: 1 + d.below(5)}
		if i%3 == 0 {
			c.request = impl.Request{Params: []string{"a", "b"}}
		}
		cases = append(cases, c)
	}
	// Lists that are one.
	shared := []int64{0, 200, 300}
	return append(cases, archiveCase{archive: few, entry: few[0], request: impl.Request{Times: shared, Steps: shared[:2], Levels: shared[:2]}, text: "step=1/2,level=1/2", budget: 3, slots: 2})
}

// archiveLists are the lists that chapter 25 answers with.
func archiveLists(c archiveCase) []answered {
	kept, _ := impl.Store(c.archive, c.entry)
	read, _ := impl.ReadRequest(c.text)
	dealt, _ := impl.Deal(c.archive, c.budget, c.slots)
	return append(listsOfRequest(read), answeredBy(kept, impl.Entry{Size: -99}), answeredBy(impl.Pick(c.archive, c.request), impl.Entry{Size: -99}), answeredBy(impl.Pick(c.archive, impl.Request{}), impl.Entry{Size: -99}), answeredBy(dealt, -99))
}

func listsOfRequest(r impl.Request) []answered {
	return []answered{answeredBy(r.Params, "#"), answeredBy(r.Times, -99), answeredBy(r.Steps, -99), answeredBy(r.Levels, -99)}
}

// archiveAnswers has all that chapters 25 and 26 answer to these arguments.
func archiveAnswers(c archiveCase) string {
	_, kept := impl.Store(c.archive, c.entry)
	_, code := impl.ReadRequest(c.text)
	_, dealt := impl.Deal(c.archive, c.budget, c.slots)
	return fmt.Sprintf("%v %v %v %q %q %q", kept, code, dealt, impl.RequestText(c.request), impl.Serve(c.script), textsOf(archiveLists(c)))
}

// roomyArchive has lists with room behind them, in which something stands, and a text of all of it.
func roomyArchive(c archiveCase) (given archiveCase, told func() string) {
	given = c
	archive, wholeArchive := roomy(c.archive, entryOf("zzzz", 5, 5, 5, 5), entryOf("?", -1, -1, -1, -1))
	params, wholeParams := roomy(c.request.Params, "zzzz", "?")
	times, wholeTimes := roomy(c.request.Times, impl.MaxTime, -1)
	steps, wholeSteps := roomy(c.request.Steps, 360, -1)
	levels, wholeLevels := roomy(c.request.Levels, 1100, -1)
	given.archive, given.request = archive, impl.Request{Params: params, Times: times, Steps: steps, Levels: levels}
	return given, func() string { return fmt.Sprint(wholeArchive, wholeParams, wholeTimes, wholeSteps, wholeLevels) }
}

func TestArchivesStayAsTheyWere(t *testing.T) {
	for i, c := range archiveCases() {
		given, told := roomyArchive(c)
		before := told()
		answers := archiveAnswers(given)
		if told() != before {
			t.Fatalf("case %d was written into", i)
		}
		if answers != archiveAnswers(c) {
			t.Fatalf("case %d: the room behind it shows", i)
		}
	}
}

// What is written into an answer, and into the room behind it, shows neither in an argument nor in another list of the answers nor in a later answer.
func TestArchivesAreNewMemory(t *testing.T) {
	for i, c := range archiveCases() {
		given, told := roomyArchive(c)
		before, answers := told(), archiveAnswers(c)
		for _, own := range []archiveCase{given, c} {
			lists := archiveLists(own)
			texts := textsOf(lists)
			for k, l := range lists {
				if l.text() != texts[k] {
					t.Fatalf("case %d: answer %d shares the memory of one ahead of it", i, k)
				}
				l.write()
			}
		}
		if told() != before || archiveAnswers(given) != answers || archiveAnswers(c) != answers {
			t.Fatalf("case %d: the answers share its memory", i)
		}
	}
}

// What is written into an argument behind the call shows in no answer, and in none that is asked for anew.
func TestArchivesAreNotKept(t *testing.T) {
	for i, c := range archiveCases() {
		answers := archiveAnswers(c)
		given, _ := roomyArchive(c)
		lists := archiveLists(given)
		kept := textsOf(lists)
		for _, l := range append(listsOfRequest(given.request), answeredBy(given.archive, impl.Entry{Param: "q", Size: 99})) {
			l.write()
		}
		if !slices.Equal(textsOf(lists), kept) {
			t.Fatalf("case %d: the answers share its memory", i)
		}
		archiveAnswers(given)
		if archiveAnswers(c) != answers {
			t.Fatalf("case %d: what was asked between shows", i)
		}
	}
}

func TestSameArchivesSameService(t *testing.T) {
	cases := archiveCases()
	askedTogether(t, len(cases), func(i int) string { return archiveAnswers(cases[i]) })
}

// answersOf has all that chapters 1 and 2 answer to these numbers, as texts and numbers that can be compared.
func answersOf(x, y float64, n, m int64, text string) [40]any {
	var a [40]any
	a[0], a[1] = impl.Same(x, y), impl.Known(x)
	a[2], a[3] = two(impl.Nearest(x))
	a[4] = impl.Told(x, n)
	r, ok := impl.ReadNumber(text)
	a[5], a[6] = math.Float64bits(r), ok
	d, ok := impl.DateOf(n)
	a[7], a[8] = d, ok
	a[9], a[10] = two(impl.TimeOf(d))
	a[11] = impl.Stamp(n)
	a[12], a[13] = two(impl.ReadStamp(text))
	a[14], a[15] = two(impl.NearDay(m%33, n%26, m%61, n))
	a[16], a[17] = impl.DayOfYear(n), impl.Weekday(n)
	a[18], a[19] = overlap(n, m)
	for i, slot := range impl.Slots(impl.Span{From: n, To: n + 100}, m) {
		a[20+i%20] = slot
	}
	return a
}

func two(n int64, ok bool) (any, any) {
	return n, ok
}

func overlap(n, m int64) (any, any) {
	s, ok := impl.Overlap(impl.Span{From: n, To: n + 50}, impl.Span{From: m, To: m + 50})
	return s, ok
}

func TestSameArgumentsSameAnswers(t *testing.T) {
	var first [][40]any
	for round := range 2 {
		d := dice(7)
		for i := range 3000 {
			odd := oddNumbers()
			x, y := odd[d.below(int64(len(odd)))], odd[d.below(int64(len(odd)))]
			n, m := d.below(impl.MaxTime+200)-100, d.below(impl.MaxTime+200)-100
			if i%3 == 0 {
				n, m = n%9-1, m%9-1
			}
			text := impl.Told(x, n)
			if i%2 == 0 {
				text = impl.Stamp(m)
			}
			answers := answersOf(x, y, n, m, text)
			if round == 0 {
				first = append(first, answers)
			} else if first[i] != answers {
				t.Fatalf("%v, %v, %d, %d, %q: two answers", x, y, n, m, text)
			}
		}
	}
}
