package tests

import (
	"fmt"
	"math"
	"regexp"
	"slices"
	"strconv"
	"strings"
	"testing"

	"loop.example/g00051/impl"
)

func TestAviationNumbers(t *testing.T) {
	got := []int64{impl.MaxChanges, impl.KFrom, impl.KBecoming, impl.KTempo, impl.KProb}
	if want := []int64{10, 1, 2, 3, 4}; !slices.Equal(got, want) {
		t.Error(got, "and not", want)
	}
}

func skyOf(dir, speed, vis int64, weather, cover string, base int64) impl.Sky {
	return impl.Sky{Dir: dir, Speed: speed, Vis: vis, Weather: weather, Cover: cover, Base: base}
}

func silentSky() impl.Sky {
	return skyOf(-1, 0, -1, "", "", 0)
}

func fullSky() impl.Sky {
	return skyOf(24, 15, 9999, "NSW", "BKN", 12)
}

type blow struct{ dir, speed int64 }

type cloud struct {
	cover string
	base  int64
}

// The texts of all that may be said of a part; that it is not said is empty.
var (
	blowTexts  = allBlows()
	cloudTexts = allClouds()
)

func allBlows() map[blow]string {
	texts := map[blow]string{{-1, 0}: "", {0, 0}: "00000KT"}
	for speed := int64(1); speed <= 99; speed++ {
		for dir := int64(1); dir <= 36; dir++ {
			texts[blow{dir, speed}] = fmt.Sprintf("%02d0%02dKT", dir, speed)
		}
		texts[blow{99, speed}] = fmt.Sprintf("VRB%02dKT", speed)
	}
	return texts
}

func allClouds() map[cloud]string {
	texts := map[cloud]string{{"", 0}: "", {"SKC", 0}: "SKC"}
	for _, cover := range []string{"FEW", "SCT", "BKN", "OVC"} {
		for base := int64(1); base <= 200; base++ {
			texts[cloud{cover, base}] = fmt.Sprintf("%s%03d", cover, base)
		}
	}
	return texts
}

func weathers() []string {
	return strings.Fields("NSW RA -RA +RA SN -SN +SN TSRA FG BR")
}

// partsBySteps has the text of each part; false when one is not as the table has it.
func partsBySteps(s impl.Sky) ([4]string, bool) {
	wind, blows := blowTexts[blow{s.Dir, s.Speed}]
	clouds, covered := cloudTexts[cloud{s.Cover, s.Base}]
	sight, seen := "", s.Vis == -1
	if s.Vis >= 0 && s.Vis <= 9999 {
		sight, seen = strconv.FormatInt(10000+s.Vis, 10)[1:], true
	}
	if !blows || !covered || !seen || s.Weather != "" && !slices.Contains(weathers(), s.Weather) {
		return [4]string{}, false
	}
	return [4]string{wind, sight, s.Weather, clouds}, true
}

func skyTextBySteps(s impl.Sky) string {
	parts, _ := partsBySteps(s)
	return strings.Join(strings.Fields(strings.Join(parts[:], " ")), " ")
}

// skyIs holds SkyOk and SkyText against the parts.
func skyIs(t *testing.T, s impl.Sky) bool {
	t.Helper()
	_, right := partsBySteps(s)
	if got := impl.SkyOk(s); got != right {
		t.Fatalf("SkyOk(%v) = %v", s, got)
	}
	if got, want := impl.SkyText(s), skyTextBySteps(s); got != want {
		t.Fatalf("SkyText(%v) = %q and not %q", s, got, want)
	}
	return right
}

func TestSkyTextByHand(t *testing.T) {
	for _, c := range []struct {
		s    impl.Sky
		want string
	}{
		{fullSky(), "24015KT 9999 NSW BKN012"}, {silentSky(), ""}, {impl.Sky{}, "00000KT 0000"},
		{skyOf(0, 0, -1, "", "", 0), "00000KT"}, {skyOf(1, 1, -1, "", "", 0), "01001KT"}, {skyOf(36, 99, -1, "", "", 0), "36099KT"}, {skyOf(99, 1, -1, "", "", 0), "VRB01KT"}, {skyOf(99, 99, -1, "", "", 0), "VRB99KT"},
		{skyOf(-1, 0, 0, "", "", 0), "0000"}, {skyOf(-1, 0, 50, "", "", 0), "0050"}, {skyOf(-1, 0, 9999, "", "", 0), "9999"},
		{skyOf(-1, 0, -1, "-SN", "", 0), "-SN"}, {skyOf(-1, 0, -1, "TSRA", "", 0), "TSRA"},
		{skyOf(-1, 0, -1, "", "SKC", 0), "SKC"}, {skyOf(-1, 0, -1, "", "FEW", 1), "FEW001"}, {skyOf(-1, 0, -1, "", "OVC", 200), "OVC200"},
		{skyOf(9, 10, -1, "FG", "", 0), "09010KT FG"}, {skyOf(-1, 0, 800, "", "SCT", 30), "0800 SCT030"}, {skyOf(99, 5, -1, "", "SKC", 0), "VRB05KT SKC"},
	} {
		if got := impl.SkyText(c.s); got != c.want || !impl.SkyOk(c.s) {
			t.Errorf("SkyText(%v) = %q and not %q", c.s, got, c.want)
		}
	}
}

func wrongSkies() []impl.Sky {
	var wrong []impl.Sky
	for _, b := range []blow{{-1, 1}, {-1, -1}, {0, 1}, {0, -1}, {1, 0}, {1, 100}, {36, 0}, {36, 100}, {37, 1}, {37, 0}, {98, 5}, {98, 0}, {99, 0}, {99, 100}, {100, 1}, {100, 0}, {-2, 0}, {-2, 1}, {5, -1}, {math.MaxInt64, 1}, {math.MinInt64, 1}, {5, math.MaxInt64}, {5, math.MinInt64}} {
		s := fullSky()
		s.Dir, s.Speed = b.dir, b.speed
		wrong = append(wrong, s)
	}
	for _, vis := range []int64{-2, 10000, 10001, math.MaxInt64, math.MinInt64} {
		s := fullSky()
		s.Vis = vis
		wrong = append(wrong, s)
	}
	for _, weather := range []string{"nsw", "ra", "Ra", "-ra", "fg", "tsra", "DZ", "--RA", "-FG", "+BR", "-NSW", "-TSRA", "RA ", " RA", "R", "RAS", "SNRA", "NS", "NSWW", "TS", "+", "-", " ", "=", "\xff", "RA SN"} {
		s := fullSky()
		s.Weather = weather
		wrong = append(wrong, s)
	}
	for _, c := range []cloud{{"SKC", 1}, {"SKC", -1}, {"SKC", 200}, {"FEW", 0}, {"SCT", 0}, {"BKN", 0}, {"OVC", 0}, {"FEW", 201}, {"SCT", 201}, {"BKN", 201}, {"OVC", 201}, {"OVC", -1}, {"", 1}, {"", -1}, {"", 200}, {"few", 10}, {"skc", 0}, {"CLR", 0}, {"CLR", 10}, {"FEW ", 10}, {"FE", 10}, {"FEWS", 10}, {"BKN012", 12}, {"BKN", math.MaxInt64}, {"BKN", math.MinInt64}, {"\x00", 1}} {
		s := fullSky()
		s.Cover, s.Base = c.cover, c.base
		wrong = append(wrong, s)
	}
	return wrong
}

func TestWrongSkies(t *testing.T) {
	for _, s := range wrongSkies() {
		if impl.SkyOk(s) || impl.SkyText(s) != "" {
			t.Errorf("%v is right: %q", s, impl.SkyText(s))
		}
		for _, other := range []impl.Sky{fullSky(), silentSky(), s} {
			if got := impl.Laid(s, other); got != (impl.Sky{}) {
				t.Errorf("Laid(%v, %v) = %v", s, other, got)
			}
			if got := impl.Laid(other, s); got != (impl.Sky{}) {
				t.Errorf("Laid(%v, %v) = %v", other, s, got)
			}
		}
	}
}

// Each number and word near its bounds, beside parts that are said and that are not.
func TestSkyEdges(t *testing.T) {
	right := 0
	count := func(s impl.Sky) {
		if skyIs(t, s) {
			right++
		}
	}
	for _, rest := range []impl.Sky{fullSky(), silentSky()} {
		for _, dir := range []int64{-2, -1, 0, 1, 2, 35, 36, 37, 98, 99, 100, 360} {
			for _, speed := range []int64{-1, 0, 1, 2, 98, 99, 100, 101} {
				count(skyOf(dir, speed, rest.Vis, rest.Weather, rest.Cover, rest.Base))
			}
		}
		for vis := int64(-2); vis <= 10001; vis++ {
			count(skyOf(rest.Dir, rest.Speed, vis, rest.Weather, rest.Cover, rest.Base))
		}
		for _, weather := range append(weathers(), "", "DZ", "rasn", "Ra") {
			count(skyOf(rest.Dir, rest.Speed, rest.Vis, weather, rest.Cover, rest.Base))
		}
		for _, cover := range []string{"", "SKC", "FEW", "SCT", "BKN", "OVC", "NSC", "bkn"} {
			for base := int64(-1); base <= 202; base++ {
				count(skyOf(rest.Dir, rest.Speed, rest.Vis, rest.Weather, cover, base))
			}
		}
	}
	if want := 2 * (2 + 5*4 + 10001 + 11 + 2 + 4*200); right != want {
		t.Error(right, "right ones and not", want)
	}
}

// sixteenSkies say some parts of one sky each, in all ways.
func sixteenSkies(of impl.Sky) []impl.Sky {
	var list []impl.Sky
	for said := range 16 {
		s := silentSky()
		if said&1 != 0 {
			s.Dir, s.Speed = of.Dir, of.Speed
		}
		if said&2 != 0 {
			s.Vis = of.Vis
		}
		if said&4 != 0 {
			s.Weather = of.Weather
		}
		if said&8 != 0 {
			s.Cover, s.Base = of.Cover, of.Base
		}
		list = append(list, s)
	}
	return list
}

func TestSixteenSkies(t *testing.T) {
	want := []string{"", "24015KT", "9999", "24015KT 9999", "NSW", "24015KT NSW", "9999 NSW", "24015KT 9999 NSW", "BKN012", "24015KT BKN012", "9999 BKN012", "24015KT 9999 BKN012", "NSW BKN012", "24015KT NSW BKN012", "9999 NSW BKN012", "24015KT 9999 NSW BKN012"}
	for i, s := range sixteenSkies(fullSky()) {
		if got := impl.SkyText(s); got != want[i] || !impl.SkyOk(s) {
			t.Errorf("SkyText(%v) = %q and not %q", s, got, want[i])
		}
	}
}

// Promise 21: what is laid over a sky holds, the rest stays.
func keepsLaid(t *testing.T, a, b impl.Sky) {
	t.Helper()
	got := impl.Laid(a, b)
	under, _ := partsBySteps(a)
	over, _ := partsBySteps(b)
	have, ok := partsBySteps(got)
	for i := range have {
		want := over[i]
		if want == "" {
			want = under[i]
		}
		if have[i] != want || !ok {
			t.Fatalf("Laid(%v, %v) = %v: %q and not %q", a, b, got, have[i], want)
		}
	}
}

func TestLaid(t *testing.T) {
	for _, under := range []impl.Sky{fullSky(), skyOf(0, 0, 0, "RA", "SKC", 0), skyOf(99, 99, 9999, "+SN", "OVC", 200)} {
		for _, over := range []impl.Sky{skyOf(0, 0, 0, "FG", "SKC", 0), skyOf(36, 1, 800, "NSW", "FEW", 1), skyOf(99, 5, 9999, "TSRA", "OVC", 200), fullSky()} {
			for _, a := range sixteenSkies(under) {
				for _, b := range sixteenSkies(over) {
					keepsLaid(t, a, b)
				}
				if impl.Laid(a, a) != a || impl.Laid(a, silentSky()) != a || impl.Laid(silentSky(), a) != a || impl.Laid(a, over) != over {
					t.Errorf("%v over itself, under and over nothing, under a full one", a)
				}
			}
		}
	}
	if got := impl.Laid(fullSky(), skyOf(99, 5, -1, "", "SKC", 0)); got != skyOf(99, 5, 9999, "NSW", "SKC", 0) {
		t.Error(got)
	}
	if got := impl.Laid(fullSky(), impl.Sky{}); got != skyOf(0, 0, 0, "NSW", "BKN", 12) {
		t.Error("the zero value says a calm and no sight", got)
	}
}

func rolledSky(d *dice) impl.Sky {
	s := skyOf(1+d.below(36), 1+d.below(99), d.below(10000), weathers()[d.below(10)], []string{"FEW", "SCT", "BKN", "OVC"}[d.below(4)], 1+d.below(200))
	switch d.below(6) {
	case 0:
		s.Dir, s.Speed = 0, 0
	case 1:
		s.Dir = 99
	}
	if d.below(4) == 0 {
		s.Vis = []int64{0, 9999, 50, 5000}[d.below(4)]
	}
	if d.below(4) == 0 {
		s.Cover, s.Base = "SKC", 0
	}
	return s
}

func TestRolledSkies(t *testing.T) {
	d := dice(2101)
	for range 3000 {
		a, b := rolledSky(&d), rolledSky(&d)
		for _, s := range sixteenSkies(a) {
			if !skyIs(t, s) {
				t.Fatalf("%v is not right", s)
			}
			keepsLaid(t, s, sixteenSkies(b)[d.below(16)])
		}
	}
}

func changeOf(kind, from, to int64, s impl.Sky) impl.Change {
	return impl.Change{Kind: kind, From: from, To: to, Sky: s}
}

const (
	midnight    = 14137920 // the beginning of 2026-11-18
	morningText = "TAF AMMC 180510Z 1806/1906 24015KT 9999 NSW BKN012" +
		" TEMPO 1808/1810 3000 RA PROB30 1809/1812 0500 FG BECMG 1810/1812 VRB05KT SKC" +
		" FM181330 00000KT 0800 BR OVC001 BECMG 1815/1818 18012KT 6000 -RA SCT030 TEMPO 1823/1824 +SN="
)

func clockAt(hour, minute int64) int64 {
	return midnight + 60*hour + minute
}

func morning() impl.Taf {
	return impl.Taf{
		Centre: "AMMC", Issued: clockAt(5, 10), Valid: impl.Span{From: clockAt(6, 0), To: clockAt(30, 0)}, Sky: fullSky(),
		Changes: []impl.Change{
			changeOf(impl.KTempo, clockAt(8, 0), clockAt(10, 0), skyOf(-1, 0, 3000, "RA", "", 0)),
			changeOf(impl.KProb, clockAt(9, 0), clockAt(12, 0), skyOf(-1, 0, 500, "FG", "", 0)),
			changeOf(impl.KBecoming, clockAt(10, 0), clockAt(12, 0), skyOf(99, 5, -1, "", "SKC", 0)),
			changeOf(impl.KFrom, clockAt(13, 30), 0, skyOf(0, 0, 800, "BR", "OVC", 1)),
			changeOf(impl.KBecoming, clockAt(15, 0), clockAt(18, 0), skyOf(18, 12, 6000, "-RA", "SCT", 30)),
			changeOf(impl.KTempo, clockAt(23, 0), clockAt(24, 0), skyOf(-1, 0, -1, "+SN", "", 0)),
		},
	}
}

func sameTaf(a, b impl.Taf) bool {
	return a.Centre == b.Centre && a.Issued == b.Issued && a.Valid == b.Valid && a.Sky == b.Sky && slices.Equal(a.Changes, b.Changes)
}

func TestMorning(t *testing.T) {
	if midnight != timeOf(2026, 11, 18, 0, 0) {
		t.Fatal(timeOf(2026, 11, 18, 0, 0))
	}
	if got := impl.TafText(morning()); got != morningText || !impl.TafOk(morning()) {
		t.Errorf("%q", got)
	}
	if got, ok := impl.ReadTaf(morningText, clockAt(0, 0)); !ok || !sameTaf(got, morning()) {
		t.Error(got, ok)
	}
}

// tafEdits are changes of the morning's forecast, one at a time.
type tafEdits map[string]func(f *impl.Taf)

// bare is the morning's forecast with these changes alone.
func bare(list ...impl.Change) func(f *impl.Taf) {
	return func(f *impl.Taf) { f.Changes = list }
}

func validFrom(from, to int64) func(f *impl.Taf) {
	return func(f *impl.Taf) {
		f.Valid, f.Changes = impl.Span{From: from, To: to}, nil
	}
}

func issuedAt(issued int64, valid impl.Span) func(f *impl.Taf) {
	return func(f *impl.Taf) {
		f.Issued, f.Valid, f.Changes = issued, valid, nil
	}
}

func rain() impl.Sky {
	return skyOf(-1, 0, -1, "RA", "", 0)
}

func rightTafs() tafEdits {
	const last = impl.MaxTime
	from, to := clockAt(6, 0), clockAt(30, 0)
	return tafEdits{
		"none": func(f *impl.Taf) {}, "0 changes": bare(), "10 changes": bare(times(10, changeOf(impl.KTempo, from, to, rain()))...),
		"10 from":             bare(times(10, changeOf(impl.KFrom, from+61, 0, fullSky()))...),
		"a centre of figures": func(f *impl.Taf) { f.Centre = "A000" }, "a centre of Z": func(f *impl.Taf) { f.Centre = "ZZZ9" },
		"60 minutes": validFrom(from, from+60), "120 minutes": validFrom(from, from+120), "2100 minutes": validFrom(from, from+2100), "2160 minutes": validFrom(from, from+2160),
		"1440 ahead": func(f *impl.Taf) { f.Issued = from - 1440 }, "1440 behind": func(f *impl.Taf) { f.Issued = from + 1440 }, "at once": func(f *impl.Taf) { f.Issued = from }, "issued behind its end": issuedAt(from+1440, impl.Span{From: from, To: from + 60}),
		"the first time": issuedAt(0, impl.Span{From: 0, To: 60}), "the first day": issuedAt(0, impl.Span{From: 0, To: 1440}), "from the first time": issuedAt(1440, impl.Span{From: 0, To: 2160}), "issued first": issuedAt(0, impl.Span{From: 1440, To: 3600}),
		"the last time": issuedAt(last, impl.Span{From: last - 60, To: last}), "the last day": issuedAt(last-2000, impl.Span{From: last - 1440, To: last}), "the last minute": issuedAt(last-1, impl.Span{From: last - 120, To: last - 60}), "issued last": issuedAt(last, impl.Span{From: last - 1440, To: last}),
		"the end of a year": issuedAt(timeOf(2025, 12, 31, 5, 10), impl.Span{From: timeOf(2025, 12, 31, 6, 0), To: timeOf(2026, 1, 1, 0, 0)}), "over the end of a year": issuedAt(timeOf(2025, 12, 31, 23, 59), impl.Span{From: timeOf(2026, 1, 1, 0, 0), To: timeOf(2026, 1, 1, 1, 0)}),
		"the end of February": issuedAt(timeOf(2023, 2, 28, 5, 10), impl.Span{From: timeOf(2023, 2, 28, 23, 0), To: timeOf(2023, 3, 1, 0, 0)}), "a leap day": issuedAt(timeOf(2024, 2, 29, 5, 10), impl.Span{From: timeOf(2024, 2, 29, 0, 0), To: timeOf(2024, 3, 1, 0, 0)}), "over a leap day": issuedAt(timeOf(2024, 2, 29, 0, 0), impl.Span{From: timeOf(2024, 2, 28, 23, 0), To: timeOf(2024, 3, 1, 1, 0)}),
		"from at Valid's From": bare(changeOf(impl.KFrom, from, 0, fullSky())), "from one ahead of its To": bare(changeOf(impl.KFrom, to-1, 0, fullSky())), "from at an odd minute": bare(changeOf(impl.KFrom, from+7, 0, fullSky())),
		"becoming all the time": bare(changeOf(impl.KBecoming, from, to, rain())), "tempo all the time": bare(changeOf(impl.KTempo, from, to, rain())), "prob all the time": bare(changeOf(impl.KProb, from, to, rain())),
		"becoming of an hour": bare(changeOf(impl.KBecoming, to-60, to, fullSky())), "becoming calm": bare(changeOf(impl.KBecoming, from, to, skyOf(0, 0, -1, "", "", 0))), "prob of no sight": bare(changeOf(impl.KProb, from, to, skyOf(-1, 0, 0, "", "", 0))),
		"froms alike":                       bare(changeOf(impl.KTempo, from+60, to, rain()), changeOf(impl.KProb, from+60, from+120, rain()), changeOf(impl.KFrom, from+60, 0, fullSky()), changeOf(impl.KBecoming, from+60, from+120, rain())),
		"from behind from, alike":           bare(changeOf(impl.KFrom, from+60, 0, fullSky()), changeOf(impl.KFrom, from+60, 0, impl.Laid(fullSky(), rain()))),
		"from at the end of becoming":       bare(changeOf(impl.KBecoming, from, from+120, rain()), changeOf(impl.KFrom, from+120, 0, fullSky())),
		"becoming at the end of becoming":   bare(changeOf(impl.KBecoming, from, from+120, rain()), changeOf(impl.KBecoming, from+120, from+180, rain())),
		"becoming at a from":                bare(changeOf(impl.KFrom, from+60, 0, fullSky()), changeOf(impl.KBecoming, from+60, from+120, rain())),
		"tempo and prob within becoming":    bare(changeOf(impl.KBecoming, from, to, rain()), changeOf(impl.KTempo, from+60, to, rain()), changeOf(impl.KProb, from+120, from+180, rain())),
		"from and becoming within tempo":    bare(changeOf(impl.KTempo, from, to, rain()), changeOf(impl.KFrom, from+1, 0, fullSky()), changeOf(impl.KBecoming, from+60, to, rain())),
		"from within prob":                  bare(changeOf(impl.KProb, from, from+120, rain()), changeOf(impl.KFrom, from+60, 0, fullSky())),
		"tempo between becoming and a from": bare(changeOf(impl.KBecoming, from, from+120, rain()), changeOf(impl.KTempo, from+60, from+120, rain()), changeOf(impl.KFrom, from+120, 0, fullSky())),
	}
}

// wrongTafs are forecasts of which one thing is not right.
func wrongTafs() tafEdits {
	const last = impl.MaxTime
	from, to := clockAt(6, 0), clockAt(30, 0)
	wrong := tafEdits{
		"11 changes": bare(times(11, changeOf(impl.KTempo, from, to, rain()))...), "11 from": bare(times(11, changeOf(impl.KFrom, from, 0, fullSky()))...), "5000 changes": bare(times(5000, changeOf(impl.KProb, from, to, rain()))...),
		"0 minutes": validFrom(from, from), "59 minutes": validFrom(from, from+59), "61 minutes": validFrom(from, from+61), "2161 minutes": validFrom(from, from+2161), "2220 minutes": validFrom(from, from+2220), "backwards": validFrom(from, from-60), "a From off the hour": validFrom(from+1, from+60), "a From and a To off the hour": validFrom(from+1, from+61), "a To off the hour": validFrom(from, from+119), "half hours": validFrom(from+30, from+90),
		"no Valid": validFrom(0, 0), "a Valid of no times": validFrom(-60, 60), "a To beyond all times": issuedAt(last, impl.Span{From: last - 60, To: last + 60}), "a Valid beyond all times": issuedAt(last, impl.Span{From: last + 60, To: last + 120}), "the widest Valid": validFrom(math.MinInt64, math.MaxInt64), "the widest Valid of hours": validFrom(-60*(math.MaxInt64/60), 60*(math.MaxInt64/60)),
		"1441 ahead": func(f *impl.Taf) { f.Issued = from - 1441 }, "1441 behind": func(f *impl.Taf) { f.Issued = from + 1441 }, "1500 ahead": func(f *impl.Taf) { f.Issued = from - 1500 }, "1500 behind": func(f *impl.Taf) { f.Issued = from + 1500 }, "issued another month": func(f *impl.Taf) { f.Issued -= 43200 },
		"a sky that says nothing": func(f *impl.Taf) { f.Sky = silentSky() }, "no values": func(f *impl.Taf) { *f = impl.Taf{} },
		"froms that fall": bare(changeOf(impl.KTempo, from+120, to, rain()), changeOf(impl.KTempo, from+60, to, rain())), "a from that falls": bare(changeOf(impl.KProb, from+120, to, rain()), changeOf(impl.KFrom, from+119, 0, fullSky())), "one that falls behind a from": bare(changeOf(impl.KFrom, from+121, 0, fullSky()), changeOf(impl.KProb, from+120, to, rain())), "the last falls": func(f *impl.Taf) { f.Changes[5].From = clockAt(14, 0); f.Changes[5].To = clockAt(15, 0) },
		"from within becoming":           bare(changeOf(impl.KBecoming, from, from+120, rain()), changeOf(impl.KFrom, from+119, 0, fullSky())),
		"becoming within becoming":       bare(changeOf(impl.KBecoming, from, from+120, rain()), changeOf(impl.KBecoming, from+60, from+180, rain())),
		"becoming twice":                 bare(changeOf(impl.KBecoming, from, from+60, rain()), changeOf(impl.KBecoming, from, from+60, rain())),
		"from within one ahead of tempo": bare(changeOf(impl.KBecoming, from, from+120, rain()), changeOf(impl.KTempo, from+60, from+120, rain()), changeOf(impl.KFrom, from+119, 0, fullSky())),
		"becoming ahead of a from":       bare(changeOf(impl.KFrom, from+61, 0, fullSky()), changeOf(impl.KBecoming, from+60, from+120, rain())),
	}
	for _, centre := range []string{"", "A", "AMM", "AMMCX", "ammc", "1MMC", "AM C", "AMm1", "AM-C", "ÄMC", "AMM\x00", "AMM\xff", " AMM"} {
		wrong["centre "+centre] = func(f *impl.Taf) { f.Centre = centre }
	}
	for _, n := range noTimes() {
		wrong[fmt.Sprint("issued at ", n)] = func(f *impl.Taf) { f.Issued = n }
	}
	for i, s := range append(wrongSkies(), sixteenSkies(fullSky())[:15]...) {
		wrong[fmt.Sprint("sky ", i)] = func(f *impl.Taf) { f.Sky = s }
		wrong[fmt.Sprint("sky of a from ", i)] = func(f *impl.Taf) { f.Changes[3].Sky = s }
	}
	for i, s := range append(wrongSkies(), silentSky()) {
		for k, kind := range []int64{impl.KTempo, impl.KProb, impl.KBecoming} {
			wrong[fmt.Sprint("sky ", i, " of kind ", kind)] = func(f *impl.Taf) { f.Changes[k].Sky = s }
		}
	}
	for _, kind := range []int64{0, 5, -1, 6, math.MaxInt64, math.MinInt64} {
		wrong[fmt.Sprint("kind ", kind)] = bare(changeOf(kind, from, to, fullSky()))
		wrong[fmt.Sprint("kind ", kind, " without a To")] = bare(changeOf(kind, from, 0, fullSky()))
	}
	addWrongTimes(wrong, from, to)
	return wrong
}

// addWrongTimes has changes whose times are none that they may have.
func addWrongTimes(wrong tafEdits, from, to int64) {
	for _, at := range []int64{from - 1, from - 60, to, to + 1, 0, -1, math.MinInt64, math.MaxInt64} {
		wrong[fmt.Sprint("from at ", at)] = bare(changeOf(impl.KFrom, at, 0, fullSky()))
	}
	for _, end := range []int64{1, -1, from, from + 60, to, math.MinInt64, math.MaxInt64} {
		wrong[fmt.Sprint("from with the To ", end)] = bare(changeOf(impl.KFrom, from, end, fullSky()))
	}
	for _, kind := range []int64{impl.KBecoming, impl.KTempo, impl.KProb} {
		for _, s := range []impl.Span{{From: from - 1, To: to}, {From: from + 1, To: to}, {From: from - 60, To: to}, {From: from, To: to + 60}, {From: from, To: to + 1}, {From: from, To: to - 1}, {From: to, To: to}, {From: to, To: to + 60}, {From: to - 1, To: to}, {From: from, To: from}, {From: from + 60, To: from}, {From: from - 120, To: from - 60}, {From: from, To: 0}, {From: 0, To: to}, {From: 0, To: 0}, {From: -60, To: 60}, {From: math.MinInt64, To: math.MaxInt64}, {From: math.MaxInt64, To: math.MinInt64}} {
			wrong[fmt.Sprint("kind ", kind, " at ", s)] = bare(changeOf(kind, s.From, s.To, fullSky()))
		}
	}
}

func refusesTaf(t *testing.T, name string, f impl.Taf) {
	t.Helper()
	if impl.TafOk(f) || impl.TafText(f) != "" || len(impl.Parts(f)) != 0 || impl.WorstSight(f) != -1 {
		t.Errorf("%s: right: %v, %q, %v, %d", name, impl.TafOk(f), impl.TafText(f), impl.Parts(f), impl.WorstSight(f))
	}
	for _, at := range []int64{f.Valid.From, f.Valid.To, clockAt(6, 0), clockAt(9, 0), -1, 0} {
		if s, others, ok := impl.StateAt(f, at); s != (impl.Sky{}) || len(others) != 0 || ok {
			t.Errorf("%s: %v, %v, %v at %d", name, s, others, ok, at)
		}
	}
}

func TestWrongTafs(t *testing.T) {
	for name, edit := range wrongTafs() {
		f := morning()
		edit(&f)
		refusesTaf(t, name, f)
		if rightTaf(f) {
			t.Errorf("%s is right, step by step", name)
		}
		// What would be its text is no text of one.
		if text := tafTextBySteps(f); impl.TafText(f) == "" && isText(text) {
			if got, ok := impl.ReadTaf(text, f.Issued); ok && sameTaf(got, f) || !ok && !sameTaf(got, impl.Taf{}) {
				t.Errorf("%s: ReadTaf(%q) = %v, %v", name, text, got, ok)
			}
		}
	}
}

func isText(text string) bool {
	return tafForm.MatchString(text)
}

func TestRightTafs(t *testing.T) {
	for name, edit := range rightTafs() {
		f := morning()
		edit(&f)
		if !impl.TafOk(f) || !rightTaf(f) {
			t.Errorf("%s is not right", name)
			continue
		}
		keepsTwentyOne(t, f)
	}
}

// rightTaf asks what the chapter asks, in another way.
func rightTaf(f impl.Taf) bool {
	isTime := func(n int64) bool { return n >= 0 && n <= impl.MaxTime }
	isHour := func(n int64) bool { return isTime(n) && calendar(n).Minute() == 0 }
	full := func(s impl.Sky) bool { return len(strings.Fields(skyTextBySteps(s))) == 4 }
	long, off := f.Valid.To-f.Valid.From, f.Valid.From-f.Issued
	if !regexp.MustCompile(`\A[A-Z][A-Z0-9]{3}\z`).MatchString(f.Centre) || !full(f.Sky) || len(f.Changes) > 10 {
		return false
	}
	if !isTime(f.Issued) || !isHour(f.Valid.From) || !isHour(f.Valid.To) || long < 60 || long > 2160 || off < -1440 || off > 1440 {
		return false
	}
	for i, c := range f.Changes {
		switch {
		case c.Kind == 1 && (!isTime(c.From) || c.To != 0 || !full(c.Sky)):
			return false
		case c.Kind != 1 && (c.Kind < 2 || c.Kind > 4 || !isHour(c.From) || !isHour(c.To) || c.To <= c.From || c.To > f.Valid.To || skyTextBySteps(c.Sky) == ""):
			return false
		case c.From < f.Valid.From || c.From >= f.Valid.To:
			return false
		}
		// Each is asked of all that are ahead of it.
		for _, ahead := range f.Changes[:i] {
			if ahead.From > c.From || c.Kind <= 2 && (ahead.Kind == 1 && ahead.From > c.From || ahead.Kind == 2 && ahead.To > c.From) {
				return false
			}
		}
	}
	return true
}

// hoursBySteps has the day and the hour of a time; of an end at hour 0 those of the day ahead.
func hoursBySteps(n int64, end bool) string {
	if c := calendar(n); !end || c.Hour() != 0 {
		return c.Format("0215")
	}
	return calendar(n-1).Format("02") + "24"
}

func tafTextBySteps(f impl.Taf) string {
	span := func(from, to int64) string { return hoursBySteps(from, false) + "/" + hoursBySteps(to, true) }
	text := "TAF " + f.Centre + " " + calendar(f.Issued).Format("021504") + "Z " + span(f.Valid.From, f.Valid.To) + " " + skyTextBySteps(f.Sky)
	for _, c := range f.Changes {
		switch c.Kind {
		case 1:
			text += " FM" + calendar(c.From).Format("021504")
		case 2, 3, 4:
			text += []string{" BECMG ", " TEMPO ", " PROB30 "}[c.Kind-2] + span(c.From, c.To)
		}
		text += " " + skyTextBySteps(c.Sky)
	}
	return text + "="
}

const (
	skyForm    = `((?: (?:[0-9]{3}|VRB)[0-9]{2}KT)?(?: [0-9]{4})?(?: (?:NSW|[-+]?RA|[-+]?SN|TSRA|FG|BR))?(?: (?:SKC|(?:FEW|SCT|BKN|OVC)[0-9]{3}))?)`
	changeForm = ` (?:FM([0-9]{6})|(BECMG|TEMPO|PROB30) ([0-9]{4})/([0-9]{4}))` + skyForm
)

var (
	tafForm     = regexp.MustCompile(`\ATAF ([A-Z][A-Z0-9]{3}) ([0-9]{6})Z ([0-9]{4})/([0-9]{4})` + skyForm + `((?:` + changeForm + `)*)=\z`)
	changeParts = regexp.MustCompile(changeForm)
	allDays     = dayNumbers()
)

// nearBySteps reads two figures each of a day, an hour and, if they are there, a minute; -1 when there is no such time.
func nearBySteps(figures string, ref int64) int64 {
	day, _ := strconv.Atoi(figures[:2])
	hour, _ := strconv.ParseInt(figures[2:4], 10, 64)
	minute, _ := strconv.ParseInt("0"+figures[4:], 10, 64)
	if day < 1 || day > 31 || hour > 24 || minute > 59 || hour == 24 && minute != 0 || ref < 0 || ref > impl.MaxTime {
		return -1
	}
	return nearByAll(allDays[day], hour, minute, ref)
}

func skyFromText(text string) impl.Sky {
	s := silentSky()
	for _, word := range strings.Fields(text) {
		switch digits, isWind := strings.CutSuffix(word, "KT"); {
		case isWind:
			s.Speed, _ = strconv.ParseInt(digits[3:], 10, 64)
			s.Dir = 99
			if n, err := strconv.ParseInt(digits[:3], 10, 64); err == nil {
				s.Dir = n / 10
			}
		case strings.Trim(word, "0123456789") == "":
			s.Vis, _ = strconv.ParseInt(word, 10, 64)
		case slices.Contains(weathers(), word):
			s.Weather = word
		default:
			s.Cover = word[:3]
			s.Base, _ = strconv.ParseInt("0"+word[3:], 10, 64)
		}
	}
	return s
}

// readTafBySteps reads by the form of a text, and looks for each time among all that there are.
func readTafBySteps(text string, ref int64) (impl.Taf, bool) {
	m := tafForm.FindStringSubmatch(text)
	if m == nil {
		return impl.Taf{}, false
	}
	issued := nearBySteps(m[2], ref)
	f := impl.Taf{Centre: m[1], Issued: issued, Valid: impl.Span{From: nearBySteps(m[3], issued), To: nearBySteps(m[4], issued)}, Sky: skyFromText(m[5])}
	for _, c := range changeParts.FindAllStringSubmatch(m[6], -1) {
		read := impl.Change{Kind: 1, Sky: skyFromText(c[5])}
		if c[1] != "" {
			read.From = nearBySteps(c[1], issued)
		} else {
			read.Kind, read.From, read.To = int64(2+slices.Index([]string{"BECMG", "TEMPO", "PROB30"}, c[2])), nearBySteps(c[3], issued), nearBySteps(c[4], issued)
		}
		f.Changes = append(f.Changes, read)
	}
	if !rightTaf(f) || tafTextBySteps(f) != text {
		return impl.Taf{}, false
	}
	return f, true
}

func readsTaf(t *testing.T, text string, ref int64) bool {
	t.Helper()
	want, right := readTafBySteps(text, ref)
	got, ok := impl.ReadTaf(text, ref)
	if ok != right || !sameTaf(got, want) {
		t.Fatalf("ReadTaf(%q, %d) = %v, %v and not %v, %v", text, ref, got, ok, want, right)
	}
	return ok
}

// holdsBySteps looks, of each part of a sky, for the last change that has said it by then.
func holdsBySteps(f impl.Taf, at int64) [4]string {
	holds, _ := partsBySteps(f.Sky)
	for part := range holds {
		for _, c := range slices.Backward(f.Changes) {
			said, _ := partsBySteps(c.Sky)
			if said[part] != "" && (c.Kind == 1 && c.From <= at || c.Kind == 2 && c.To <= at) {
				holds[part] = said[part]
				break
			}
		}
	}
	return holds
}

func mayBeBySteps(f impl.Taf, at int64) [][4]string {
	var list [][4]string
	for _, c := range f.Changes {
		if c.Kind == 1 || at < c.From || at >= c.To {
			continue
		}
		sky, said := holdsBySteps(f, at), [4]string{}
		said, _ = partsBySteps(c.Sky)
		for part := range sky {
			if said[part] != "" {
				sky[part] = said[part]
			}
		}
		list = append(list, sky)
	}
	return list
}

// stateIs holds StateAt against the chapter at one time of Valid, and tells the least sight there.
func stateIs(t *testing.T, f impl.Taf, at int64) int64 {
	t.Helper()
	s, others, ok := impl.StateAt(f, at)
	holds, right := partsBySteps(s)
	if !ok || !right || holds != holdsBySteps(f, at) {
		t.Fatalf("StateAt(%v, %d) = %v, %v", f, at, s, ok)
	}
	worst := s.Vis
	var have [][4]string
	for _, other := range others {
		parts, _ := partsBySteps(other)
		have = append(have, parts)
		worst = min(worst, other.Vis)
	}
	if want := mayBeBySteps(f, at); !slices.Equal(have, want) {
		t.Fatalf("StateAt(%v, %d): may be %v and not %v", f, at, have, want)
	}
	return worst
}

// partsByMinutes looks at each minute of Valid, whether something begins or ends then.
func partsByMinutes(f impl.Taf) []impl.Span {
	var list []impl.Span
	begun := f.Valid.From
	for at := f.Valid.From + 1; at <= f.Valid.To; at++ {
		ends := at == f.Valid.To
		for _, c := range f.Changes {
			ends = ends || c.From == at || c.Kind != impl.KFrom && c.To == at
		}
		if ends {
			list = append(list, impl.Span{From: begun, To: at})
			begun = at
		}
	}
	return list
}

// Promise 21: a forecast is read back from its text; at each minute it means one state; its parts are its whole time.
func keepsTwentyOne(t *testing.T, f impl.Taf) {
	t.Helper()
	text := impl.TafText(f)
	if want := tafTextBySteps(f); text != want {
		t.Fatalf("TafText(%v) = %q and not %q", f, text, want)
	}
	// Whatever month is nearest: ten days are less than half of the shortest.
	for _, ref := range []int64{f.Issued, max(0, f.Issued-14400), min(impl.MaxTime, f.Issued+14400)} {
		if got, ok := impl.ReadTaf(text, ref); !ok || !sameTaf(got, f) {
			t.Fatalf("ReadTaf(%q, %d) = %v, %v", text, ref, got, ok)
		}
	}
	parts := impl.Parts(f)
	if want := partsByMinutes(f); !slices.Equal(parts, want) {
		t.Fatalf("Parts(%v) = %v and not %v", f, parts, want)
	}
	worst, end := int64(math.MaxInt64), f.Valid.From
	for _, part := range parts {
		first, others, _ := impl.StateAt(f, part.From)
		for at := part.From; at < part.To; at++ {
			s, may, ok := impl.StateAt(f, at)
			if at != end || !ok || s != first || !slices.Equal(may, others) {
				t.Fatalf("%v: %v, %v at %d, %v, %v at %d", f, first, others, part.From, s, may, at)
			}
			end++
		}
		worst = min(worst, stateIs(t, f, part.From), stateIs(t, f, part.To-1))
	}
	if got := impl.WorstSight(f); end != f.Valid.To || got != worst {
		t.Fatalf("WorstSight(%v) = %d and not %d; its parts end at %d", f, got, worst, end)
	}
	for _, at := range []int64{f.Valid.From - 1, f.Valid.To, f.Valid.To + 1, -1, impl.MaxTime + 1, math.MaxInt64, math.MinInt64} {
		if s, others, ok := impl.StateAt(f, at); s != (impl.Sky{}) || len(others) != 0 || ok {
			t.Fatalf("%v: %v, %v, %v at %d", f, s, others, ok, at)
		}
	}
}

// rolledHour is one of all, but often one at the end of a day, a month, a year or of all times.
func rolledHour(d *dice) int64 {
	const all = impl.MaxTime / 60
	switch d.below(5) {
	case 0:
		return d.below(60)
	case 1:
		return all - d.below(60)
	case 2:
		month := timeOf(2000+d.below(100), 1+d.below(12), 1, 0, 0) / 60
		return min(all, max(0, month+d.below(73)-48))
	}
	return d.below(all)
}

func rolledTaf(d *dice) impl.Taf {
	const last = impl.MaxTime / 60
	long := []int64{1, 2, 24, 36, 1 + d.below(36), 1 + d.below(36)}[d.below(6)]
	first := min(rolledHour(d), last-long)
	valid := impl.Span{From: 60 * first, To: 60 * (first + long)}
	issued := valid.From + []int64{-1440, 1440, 0, -50, d.below(2881) - 1440}[d.below(5)]
	return impl.Taf{
		Centre: []string{"AMMC", "EDDF", "K1A2", "ZZZZ"}[d.below(4)], Issued: min(impl.MaxTime, max(0, issued)),
		Valid: valid, Sky: rolledSky(d), Changes: rolledChanges(d, valid, d.below(11)),
	}
}

// rolledChanges are so many that may stand behind one another, or fewer where there is no more room.
func rolledChanges(d *dice, valid impl.Span, count int64) []impl.Change {
	var list []impl.Change
	last, settled := valid.From, valid.From
	for range count {
		kind := 1 + d.below(4)
		from := last
		if kind <= impl.KBecoming {
			from = max(from, settled)
		}
		if d.below(3) > 0 {
			from += d.below(300)
		}
		c := changeOf(kind, from, 0, rolledSky(d))
		if kind != impl.KFrom {
			c.From = (from + 59) / 60 * 60
			c.To = min(valid.To, c.From+60*(1+d.below(8)))
			c.Sky = sixteenSkies(c.Sky)[1+d.below(15)]
		}
		if c.From >= valid.To {
			continue
		}
		last = c.From
		switch kind {
		case impl.KFrom:
			settled = c.From
		case impl.KBecoming:
			settled = c.To
		}
		list = append(list, c)
	}
	return list
}

func TestRolledTafs(t *testing.T) {
	d := dice(2102)
	changed := 0
	for range 400 {
		f := rolledTaf(&d)
		if !impl.TafOk(f) || !rightTaf(f) {
			t.Fatalf("%v is not right", f)
		}
		changed += len(f.Changes)
		keepsTwentyOne(t, f)
	}
	if changed < 1200 {
		t.Error("only", changed, "changes")
	}
}

// nudged is a forecast of which one number is near what it was.
func nudged(d *dice, f impl.Taf) impl.Taf {
	by := []int64{1, -1, 60, -60, 120, -120, 1440, -1440}[d.below(8)]
	numbers := []*int64{&f.Issued, &f.Valid.From, &f.Valid.To, &f.Sky.Dir, &f.Sky.Vis, &f.Sky.Base}
	f.Changes = slices.Clone(f.Changes)
	for i := range f.Changes {
		c := &f.Changes[i]
		numbers = append(numbers, &c.From, &c.To, &c.From, &c.To, &c.Kind, &c.Sky.Speed)
	}
	*numbers[d.below(int64(len(numbers)))] += by
	if n := len(f.Changes); n > 1 && d.below(4) == 0 {
		i, k := d.below(int64(n)), d.below(int64(n))
		f.Changes[i], f.Changes[k] = f.Changes[k], f.Changes[i]
	}
	return f
}

func TestNudgedTafs(t *testing.T) {
	d := dice(2103)
	right, wrong := 0, 0
	for range 20000 {
		f := nudged(&d, rolledTaf(&d))
		if got := impl.TafOk(f); got != rightTaf(f) {
			t.Fatalf("TafOk(%v) = %v", f, got)
		}
		if impl.TafOk(f) {
			right++
			if impl.TafText(f) != tafTextBySteps(f) {
				t.Fatalf("TafText(%v) = %q", f, impl.TafText(f))
			}
		} else {
			wrong++
			if impl.TafText(f) != "" || len(impl.Parts(f)) != 0 || impl.WorstSight(f) != -1 {
				t.Fatalf("of %v something is told", f)
			}
		}
	}
	if right < 2000 || wrong < 2000 {
		t.Error(right, "right and", wrong, "wrong")
	}
}

func TestTafTextByHand(t *testing.T) {
	const rest = " 24015KT 9999 NSW BKN012="
	const last = impl.MaxTime
	for _, c := range []struct {
		edit func(f *impl.Taf)
		want string
	}{
		{bare(), "TAF AMMC 180510Z 1806/1906" + rest},
		{validFrom(clockAt(0, 0), clockAt(24, 0)), "TAF AMMC 180510Z 1800/1824" + rest},
		{validFrom(clockAt(23, 0), clockAt(24, 0)), "TAF AMMC 180510Z 1823/1824" + rest},
		{validFrom(clockAt(24, 0), clockAt(25, 0)), "TAF AMMC 180510Z 1900/1901" + rest},
		{validFrom(clockAt(24, 0), clockAt(48, 0)), "TAF AMMC 180510Z 1900/1924" + rest},
		{issuedAt(0, impl.Span{From: 0, To: 60}), "TAF AMMC 010000Z 0100/0101" + rest},
		{issuedAt(0, impl.Span{From: 0, To: 1440}), "TAF AMMC 010000Z 0100/0124" + rest},
		{issuedAt(last, impl.Span{From: last - 60, To: last}), "TAF AMMC 010000Z 3123/3124" + rest},
		{issuedAt(last-1, impl.Span{From: last - 1440, To: last}), "TAF AMMC 312359Z 3100/3124" + rest},
		{issuedAt(timeOf(2023, 2, 28, 12, 5), impl.Span{From: timeOf(2023, 2, 28, 13, 0), To: timeOf(2023, 3, 1, 0, 0)}), "TAF AMMC 281205Z 2813/2824" + rest},
		{issuedAt(timeOf(2024, 2, 28, 12, 5), impl.Span{From: timeOf(2024, 2, 28, 13, 0), To: timeOf(2024, 3, 1, 0, 0)}), "TAF AMMC 281205Z 2813/2924" + rest},
		{issuedAt(timeOf(2025, 12, 31, 23, 5), impl.Span{From: timeOf(2026, 1, 1, 0, 0), To: timeOf(2026, 1, 2, 0, 0)}), "TAF AMMC 312305Z 0100/0124" + rest},
		{bare(changeOf(impl.KFrom, clockAt(24, 0), 0, fullSky())), "TAF AMMC 180510Z 1806/1906 24015KT 9999 NSW BKN012 FM190000" + rest},
		{bare(changeOf(impl.KFrom, clockAt(23, 59), 0, fullSky())), "TAF AMMC 180510Z 1806/1906 24015KT 9999 NSW BKN012 FM182359" + rest},
		{bare(changeOf(impl.KBecoming, clockAt(22, 0), clockAt(24, 0), rain())), "TAF AMMC 180510Z 1806/1906 24015KT 9999 NSW BKN012 BECMG 1822/1824 RA="},
		{bare(changeOf(impl.KTempo, clockAt(24, 0), clockAt(30, 0), rain())), "TAF AMMC 180510Z 1806/1906 24015KT 9999 NSW BKN012 TEMPO 1900/1906 RA="},
		{bare(changeOf(impl.KProb, clockAt(6, 0), clockAt(30, 0), skyOf(99, 2, 50, "+SN", "OVC", 200))), "TAF AMMC 180510Z 1806/1906 24015KT 9999 NSW BKN012 PROB30 1806/1906 VRB02KT 0050 +SN OVC200="},
	} {
		f := morning()
		c.edit(&f)
		if got := impl.TafText(f); got != c.want {
			t.Errorf("TafText(%v) = %q and not %q", f, got, c.want)
		}
		if got, ok := impl.ReadTaf(c.want, f.Issued); !ok || !sameTaf(got, f) {
			t.Errorf("ReadTaf(%q) = %v, %v", c.want, got, ok)
		}
	}
}

func refusesFlight(t *testing.T, text string, ref int64) {
	t.Helper()
	if got, ok := impl.ReadTaf(text, ref); ok || !sameTaf(got, impl.Taf{}) {
		t.Errorf("ReadTaf(%.200q, %d) = %v, %v", text, ref, got, ok)
	}
	if readsTaf(t, text, ref) {
		t.Errorf("%.200q is read, step by step", text)
	}
}

func TestTextsOfNoTaf(t *testing.T) {
	for _, text := range []string{
		"", "=", " ", " =", "TAF", "TAF=", "TAF AMMC=", "TAF AMMC 180510Z=", "TAF AMMC 180510Z 1806/1906=", "AMMC 180510Z 1806/1906 24015KT 9999 NSW BKN012=",
		// Too few parts, a part twice, in another order.
		"TAF AMMC 180510Z 1806/1906 24015KT 9999 NSW=", "TAF AMMC 180510Z 1806/1906 24015KT 9999 BKN012=", "TAF AMMC 180510Z 1806/1906 24015KT NSW BKN012=", "TAF AMMC 180510Z 1806/1906 9999 NSW BKN012=", "TAF AMMC 180510Z 1806/1906 24015KT 24015KT 9999 NSW BKN012=", "TAF AMMC 180510Z 1806/1906 24015KT 9999 9999 NSW BKN012=", "TAF AMMC 180510Z 1806/1906 24015KT 9999 NSW BKN012 BKN012=", "TAF AMMC 180510Z 1806/1906 9999 24015KT NSW BKN012=", "TAF AMMC 180510Z 1806/1906 24015KT NSW 9999 BKN012=", "TAF AMMC 180510Z 1806/1906 24015KT 9999 BKN012 NSW=", "TAF AMMC 1806/1906 180510Z 24015KT 9999 NSW BKN012=", "TAF 180510Z AMMC 1806/1906 24015KT 9999 NSW BKN012=",
		// What a part can't say.
		"TAF AMMC 180510Z 1806/1906 24515KT 9999 NSW BKN012=", "TAF AMMC 180510Z 1806/1906 2401KT 9999 NSW BKN012=", "TAF AMMC 180510Z 1806/1906 240150KT 9999 NSW BKN012=", "TAF AMMC 180510Z 1806/1906 24000KT 9999 NSW BKN012=", "TAF AMMC 180510Z 1806/1906 00005KT 9999 NSW BKN012=", "TAF AMMC 180510Z 1806/1906 37015KT 9999 NSW BKN012=", "TAF AMMC 180510Z 1806/1906 99015KT 9999 NSW BKN012=", "TAF AMMC 180510Z 1806/1906 VRB00KT 9999 NSW BKN012=", "TAF AMMC 180510Z 1806/1906 vrb05KT 9999 NSW BKN012=", "TAF AMMC 180510Z 1806/1906 24015kt 9999 NSW BKN012=", "TAF AMMC 180510Z 1806/1906 KT 9999 NSW BKN012=", "TAF AMMC 180510Z 1806/1906 -1000KT 9999 NSW BKN012=", "TAF AMMC 180510Z 1806/1906 XX000KT 9999 NSW BKN012=", "TAF AMMC 180510Z 1806/1906 24015KT 10000 NSW BKN012=", "TAF AMMC 180510Z 1806/1906 24015KT 999 NSW BKN012=", "TAF AMMC 180510Z 1806/1906 24015KT -001 NSW BKN012=", "TAF AMMC 180510Z 1806/1906 24015KT 9999 nsw BKN012=", "TAF AMMC 180510Z 1806/1906 24015KT 9999 DZ BKN012=", "TAF AMMC 180510Z 1806/1906 24015KT 9999 NSW BKN12=", "TAF AMMC 180510Z 1806/1906 24015KT 9999 NSW BKN000=", "TAF AMMC 180510Z 1806/1906 24015KT 9999 NSW BKN201=", "TAF AMMC 180510Z 1806/1906 24015KT 9999 NSW BKN=", "TAF AMMC 180510Z 1806/1906 24015KT 9999 NSW SKC000=", "TAF AMMC 180510Z 1806/1906 24015KT 9999 NSW SKC012=", "TAF AMMC 180510Z 1806/1906 24015KT 9999 NSW BKN-01=", "TAF AMMC 180510Z 1806/1906 24015KT 9999 NSW BKN+12=",
		// Hour 24 in a From, hour 00 in a To, days and hours that are none.
		"TAF AMMC 180510Z 1724/1824 24015KT 9999 NSW BKN012=", "TAF AMMC 180510Z 1806/1900 24015KT 9999 NSW BKN012=", "TAF AMMC 182400Z 1900/1906 24015KT 9999 NSW BKN012=", "TAF AMMC 180560Z 1806/1906 24015KT 9999 NSW BKN012=", "TAF AMMC 182500Z 1806/1906 24015KT 9999 NSW BKN012=", "TAF AMMC 000510Z 0106/0206 24015KT 9999 NSW BKN012=", "TAF AMMC 320510Z 0106/0206 24015KT 9999 NSW BKN012=", "TAF AMMC 180510Z 0006/1906 24015KT 9999 NSW BKN012=", "TAF AMMC 180510Z 1806/3206 24015KT 9999 NSW BKN012=", "TAF AMMC 180510Z 1825/1906 24015KT 9999 NSW BKN012=", "TAF AMMC 180510Z 1806/1825 24015KT 9999 NSW BKN012=",
		"TAF AMMC 180510Z 1806/1906 24015KT 9999 NSW BKN012 FM182400 24015KT 9999 NSW BKN012=", "TAF AMMC 180510Z 1806/1906 24015KT 9999 NSW BKN012 FM181260 24015KT 9999 NSW BKN012=", "TAF AMMC 180510Z 1806/1906 24015KT 9999 NSW BKN012 TEMPO 1824/1906 RA=", "TAF AMMC 180510Z 1806/1906 24015KT 9999 NSW BKN012 TEMPO 1812/1900 RA=",
		// Times that are told in another way.
		"TAF AMMC 180510 1806/1906 24015KT 9999 NSW BKN012=", "TAF AMMC 180510ZZ 1806/1906 24015KT 9999 NSW BKN012=", "TAF AMMC 180510z 1806/1906 24015KT 9999 NSW BKN012=", "TAF AMMC 18051Z 1806/1906 24015KT 9999 NSW BKN012=", "TAF AMMC 1805100Z 1806/1906 24015KT 9999 NSW BKN012=", "TAF AMMC 180510Z 18061906 24015KT 9999 NSW BKN012=", "TAF AMMC 180510Z 1806-1906 24015KT 9999 NSW BKN012=", "TAF AMMC 180510Z 1806/1906/ 24015KT 9999 NSW BKN012=", "TAF AMMC 180510Z 180600/190600 24015KT 9999 NSW BKN012=", "TAF AMMC 180510Z 186/196 24015KT 9999 NSW BKN012=", "TAF AMMC 180510Z / 24015KT 9999 NSW BKN012=", "TAF AMMC +80510Z 1806/1906 24015KT 9999 NSW BKN012=", "TAF AMMC 18-510Z 1806/1906 24015KT 9999 NSW BKN012=",
		// Changes that are none.
		"TAF AMMC 180510Z 1806/1906 24015KT 9999 NSW BKN012 FM1813 24015KT 9999 NSW BKN012=", "TAF AMMC 180510Z 1806/1906 24015KT 9999 NSW BKN012 FM 181330 24015KT 9999 NSW BKN012=", "TAF AMMC 180510Z 1806/1906 24015KT 9999 NSW BKN012 FM181330=", "TAF AMMC 180510Z 1806/1906 24015KT 9999 NSW BKN012 FM181330 RA=", "TAF AMMC 180510Z 1806/1906 24015KT 9999 NSW BKN012 FM181330Z 24015KT 9999 NSW BKN012=", "TAF AMMC 180510Z 1806/1906 24015KT 9999 NSW BKN012 TEMPO=", "TAF AMMC 180510Z 1806/1906 24015KT 9999 NSW BKN012 TEMPO 1808/1810=", "TAF AMMC 180510Z 1806/1906 24015KT 9999 NSW BKN012 TEMPO RA=", "TAF AMMC 180510Z 1806/1906 24015KT 9999 NSW BKN012 1808/1810 RA=", "TAF AMMC 180510Z 1806/1906 24015KT 9999 NSW BKN012 PROB40 1808/1810 RA=", "TAF AMMC 180510Z 1806/1906 24015KT 9999 NSW BKN012 PROB30 TEMPO 1808/1810 RA=", "TAF AMMC 180510Z 1806/1906 24015KT 9999 NSW BKN012 tempo 1808/1810 RA=", "TAF AMMC 180510Z 1806/1906 24015KT 9999 NSW BKN012 BECMG1808/1810 RA=", "TAF AMMC 180510Z 1806/1906 24015KT 9999 NSW BKN012 RMK=", "TAF AMMC 180510Z 1806/1906 24015KT 9999 NSW BKN012 BECMG 1810/1812 RA FM181159 24015KT 9999 NSW BKN012=", "TAF AMMC 180510Z 1806/1906 24015KT 9999 NSW BKN012 TEMPO 1812/1814 RA TEMPO 1811/1814 RA=", "TAF AMMC 180510Z 1806/1906 24015KT 9999 NSW BKN012" + strings.Repeat(" TEMPO 1812/1814 RA", 11) + "=",
		// Forecasts that are not right.
		"TAF AMMC 180510Z 1806/1806 24015KT 9999 NSW BKN012=", "TAF AMMC 180510Z 1806/1919 24015KT 9999 NSW BKN012=", "TAF AMMC 180510Z 1906/1909 24015KT 9999 NSW BKN012=", "TAF AMMC 180510Z 1705/1710 24015KT 9999 NSW BKN012=", "TAF AMMC 180510Z 1606/1706 24015KT 9999 NSW BKN012=", "TAF AMMC 180510Z 1806/1805 24015KT 9999 NSW BKN012=", "TAF ammc 180510Z 1806/1906 24015KT 9999 NSW BKN012=", "TAF 1MMC 180510Z 1806/1906 24015KT 9999 NSW BKN012=", "TAF AMM 180510Z 1806/1906 24015KT 9999 NSW BKN012=", "TAF AMMCX 180510Z 1806/1906 24015KT 9999 NSW BKN012=",
		strings.Repeat(" ", 100000), strings.Repeat("TAF ", 50000) + "=", morningText + morningText, strings.Repeat("9", 100000) + "=", "TAF AMMC 180510Z 1806/1906 24015KT 9999 NSW BKN012" + strings.Repeat(" FM181330 24015KT 9999 NSW BKN012", 5000) + "=",
	} {
		refusesFlight(t, text, clockAt(0, 0))
	}
}

// The morning's text with a sign more, a sign less, another one, a word less, twice, or in another place.
func TestSpoiltTexts(t *testing.T) {
	for i := range len(morningText) + 1 {
		for _, sign := range " =/Z0A-\n\x00é" {
			readsTaf(t, morningText[:i]+string(sign)+morningText[i:], clockAt(0, 0))
			if i < len(morningText) {
				readsTaf(t, morningText[:i]+string(sign)+morningText[i+1:], clockAt(0, 0))
			}
		}
		if i < len(morningText) {
			refusesFlight(t, morningText[:i], clockAt(0, 0))
		}
		// Without its sign a rain or a snow is another one.
		if i < len(morningText) && !strings.Contains("-+", morningText[i:i+1]) {
			refusesFlight(t, morningText[:i]+morningText[i+1:], clockAt(0, 0))
		}
	}
	for _, b := range []string{" ", "=", "\n", "\x00", "  ", "==", "TAF"} {
		refusesFlight(t, b+morningText, clockAt(0, 0))
		refusesFlight(t, morningText+b, clockAt(0, 0))
	}
	words := strings.Split(morningText, " ")
	for i := range words {
		readsTaf(t, strings.Join(slices.Delete(slices.Clone(words), i, i+1), " "), clockAt(0, 0))
		readsTaf(t, strings.Join(slices.Insert(slices.Clone(words), i, words[i]), " "), clockAt(0, 0))
		for k := range i {
			swapped := slices.Clone(words)
			swapped[i], swapped[k] = swapped[k], swapped[i]
			readsTaf(t, strings.Join(swapped, " "), clockAt(0, 0))
		}
	}
}

// spoiltText has some signs or words of a text changed.
func spoiltText(d *dice, text string) string {
	switch d.below(4) {
	case 0:
		words := strings.Split(text, " ")
		i, k := d.below(int64(len(words))), d.below(int64(len(words)))
		words[i], words[k] = words[k], words[i]
		return strings.Join(words, " ")
	case 1:
		at := int(d.below(int64(len(text))))
		return text[:at] + text[at+1:]
	}
	letters := []byte(text)
	for range 1 + d.below(2) {
		at := d.below(int64(len(letters)))
		if letters[at] >= '0' && letters[at] <= '9' {
			letters[at] = byte('0' + d.below(10))
		} else {
			letters[at] = "ABCDEFGKMNORSTVWZ -+/=0"[d.below(23)]
		}
	}
	return string(letters)
}

func TestSpoiltRolledTexts(t *testing.T) {
	d := dice(2104)
	read, refused := 0, 0
	for range 6000 {
		f := rolledTaf(&d)
		text := spoiltText(&d, impl.TafText(f))
		ref := min(impl.MaxTime, max(0, f.Issued+d.below(90000)-45000))
		if readsTaf(t, text, ref) {
			read++
		} else {
			refused++
		}
	}
	if read < 500 || refused < 500 {
		t.Error(read, "were read and", refused, "refused")
	}
}

func TestReadNearRef(t *testing.T) {
	shifted := func(by int64) impl.Taf {
		f := morning()
		f.Issued, f.Valid.From, f.Valid.To = f.Issued+by, f.Valid.From+by, f.Valid.To+by
		for i := range f.Changes {
			f.Changes[i].From += by
			if f.Changes[i].To != 0 {
				f.Changes[i].To += by
			}
		}
		return f
	}
	issued := morning().Issued
	// October has 31 days, November 30: halfway to another month is as near to both.
	const october, december = -31 * 1440, 30 * 1440
	for _, c := range []struct{ ref, by int64 }{
		{issued, 0}, {issued + december/2 - 1, 0}, {issued + december/2, 0}, {issued + december/2 + 1, december}, {issued + december, december},
		{issued + october/2 + 1, 0}, {issued + october/2, october}, {issued + october/2 - 1, october}, {issued + october, october},
		{0, timeOf(2000, 1, 18, 0, 0) - midnight}, {impl.MaxTime, timeOf(2099, 12, 18, 0, 0) - midnight},
	} {
		if got, ok := impl.ReadTaf(morningText, c.ref); !ok || !sameTaf(got, shifted(c.by)) {
			t.Errorf("near %d: %v, %v", c.ref, got, ok)
		}
	}
	for _, ref := range noTimes() {
		refusesFlight(t, morningText, ref)
	}
}

// A text may be one of a forecast in one month and not in another.
func TestReadInOtherMonths(t *testing.T) {
	const rest = " 24015KT 9999 NSW BKN012="
	for _, c := range []struct {
		text string
		ref  int64
		want bool
	}{
		{"TAF AMMC 281800Z 0100/0101" + rest, timeOf(2023, 2, 28, 0, 0), true}, {"TAF AMMC 281800Z 0100/0101" + rest, timeOf(2024, 2, 28, 0, 0), false}, {"TAF AMMC 281800Z 0100/0101" + rest, timeOf(2023, 3, 28, 0, 0), false},
		{"TAF AMMC 301800Z 3106/3124" + rest, timeOf(2023, 10, 30, 0, 0), true}, {"TAF AMMC 301800Z 3106/3124" + rest, timeOf(2023, 11, 30, 0, 0), false},
		{"TAF AMMC 301800Z 3012/3124" + rest, timeOf(2023, 12, 30, 0, 0), true}, {"TAF AMMC 301800Z 3012/3124" + rest, timeOf(2023, 9, 30, 0, 0), false}, {"TAF AMMC 301800Z 3006/3024" + rest, timeOf(2023, 9, 30, 0, 0), true},
		{"TAF AMMC 291800Z 2906/2924" + rest, timeOf(2024, 2, 20, 0, 0), true}, {"TAF AMMC 291800Z 2906/2924" + rest, timeOf(2023, 2, 20, 0, 0), true}, {"TAF AMMC 291800Z 2906/0106" + rest, timeOf(2024, 2, 20, 0, 0), true}, {"TAF AMMC 291800Z 2906/0106" + rest, timeOf(2023, 2, 20, 0, 0), false},
		{"TAF AMMC 010000Z 3123/3124" + rest, impl.MaxTime, true}, {"TAF AMMC 010000Z 3123/3124" + rest, 0, false}, {"TAF AMMC 010000Z 3123/3124" + rest, 44640, true}, {"TAF AMMC 010000Z 3123/0101" + rest, impl.MaxTime, false}, {"TAF AMMC 010000Z 0100/0101" + rest, impl.MaxTime, false}, {"TAF AMMC 010000Z 0100/0101" + rest, 0, true}, {"TAF AMMC 010001Z 3123/3124" + rest, impl.MaxTime, false},
	} {
		got, ok := impl.ReadTaf(c.text, c.ref)
		if ok != c.want || ok != impl.TafOk(got) {
			t.Errorf("ReadTaf(%q, %d) = %v, %v", c.text, c.ref, got, ok)
		}
		readsTaf(t, c.text, c.ref)
	}
}

func TestStateByHand(t *testing.T) {
	f := morning()
	first := fullSky()
	becomes := skyOf(99, 5, 9999, "NSW", "SKC", 0)
	fog := skyOf(0, 0, 800, "BR", "OVC", 1)
	wet := skyOf(18, 12, 6000, "-RA", "SCT", 30)
	tempo := skyOf(24, 15, 3000, "RA", "BKN", 12)
	prob := skyOf(24, 15, 500, "FG", "BKN", 12)
	for _, c := range []struct {
		hour, minute int64
		holds        impl.Sky
		may          []impl.Sky
	}{
		{6, 0, first, nil}, {6, 1, first, nil}, {7, 59, first, nil},
		{8, 0, first, []impl.Sky{tempo}}, {8, 1, first, []impl.Sky{tempo}}, {8, 59, first, []impl.Sky{tempo}},
		{9, 0, first, []impl.Sky{tempo, prob}}, {9, 1, first, []impl.Sky{tempo, prob}}, {9, 59, first, []impl.Sky{tempo, prob}},
		{10, 0, first, []impl.Sky{prob, becomes}}, {10, 1, first, []impl.Sky{prob, becomes}}, {11, 59, first, []impl.Sky{prob, becomes}},
		{12, 0, becomes, nil}, {12, 1, becomes, nil}, {13, 29, becomes, nil},
		{13, 30, fog, nil}, {13, 31, fog, nil}, {14, 59, fog, nil},
		{15, 0, fog, []impl.Sky{wet}}, {15, 1, fog, []impl.Sky{wet}}, {17, 59, fog, []impl.Sky{wet}},
		{18, 0, wet, nil}, {18, 1, wet, nil}, {22, 59, wet, nil},
		{23, 0, wet, []impl.Sky{skyOf(18, 12, 6000, "+SN", "SCT", 30)}}, {23, 59, wet, []impl.Sky{skyOf(18, 12, 6000, "+SN", "SCT", 30)}}, {24, 0, wet, nil}, {24, 1, wet, nil}, {29, 59, wet, nil},
	} {
		s, may, ok := impl.StateAt(f, clockAt(c.hour, c.minute))
		if s != c.holds || !slices.Equal(may, c.may) || !ok {
			t.Errorf("at %d:%02d: %v, %v, %v", c.hour, c.minute, s, may, ok)
		}
	}
	for _, at := range []int64{clockAt(5, 59), clockAt(30, 0), clockAt(30, 1), clockAt(5, 10), 0, -1, math.MaxInt64, math.MinInt64} {
		if s, may, ok := impl.StateAt(f, at); s != (impl.Sky{}) || len(may) != 0 || ok {
			t.Errorf("%d: %v, %v, %v", at, s, may, ok)
		}
	}
}

// What may be is laid over what holds at last, whatever change is told behind it.
func TestStateOverWhatHoldsAtLast(t *testing.T) {
	f := morning()
	from, to := clockAt(6, 0), clockAt(30, 0)
	wind, later := skyOf(9, 20, -1, "", "", 0), skyOf(1, 1, 5000, "SN", "OVC", 5)
	bare(changeOf(impl.KTempo, from, to, rain()), changeOf(impl.KBecoming, from, from+60, wind), changeOf(impl.KFrom, from+60, 0, later), changeOf(impl.KProb, from+60, from+120, wind))(&f)
	for at, want := range map[int64][]impl.Sky{
		from:       {fullSky(), impl.Laid(fullSky(), rain()), impl.Laid(fullSky(), wind)},
		from + 59:  {fullSky(), impl.Laid(fullSky(), rain()), impl.Laid(fullSky(), wind)},
		from + 60:  {later, impl.Laid(later, rain()), impl.Laid(later, wind)},
		from + 119: {later, impl.Laid(later, rain()), impl.Laid(later, wind)},
		from + 120: {later, impl.Laid(later, rain())},
		to - 1:     {later, impl.Laid(later, rain())},
	} {
		s, may, ok := impl.StateAt(f, at)
		if !ok || !slices.Equal(append([]impl.Sky{s}, may...), want) {
			t.Errorf("at %d: %v, %v, %v", at-from, s, may, ok)
		}
	}
	// Ten that may be at once.
	bare(times(10, changeOf(impl.KProb, from, to, rain()))...)(&f)
	if s, may, ok := impl.StateAt(f, to-1); !ok || s != fullSky() || !slices.Equal(may, times(10, impl.Laid(fullSky(), rain()))) {
		t.Error(s, may, ok)
	}
	// Of two that begin at once the last holds.
	bare(changeOf(impl.KFrom, from, 0, later), changeOf(impl.KFrom, from, 0, impl.Laid(later, rain())))(&f)
	if s, may, ok := impl.StateAt(f, from); !ok || s != impl.Laid(later, rain()) || len(may) != 0 {
		t.Error(s, may, ok)
	}
}

func TestPartsByHand(t *testing.T) {
	from, to := clockAt(6, 0), clockAt(30, 0)
	for _, c := range []struct {
		edit func(f *impl.Taf)
		ends []int64
	}{
		{func(f *impl.Taf) {}, []int64{360, 480, 540, 600, 720, 810, 900, 1080, 1380, 1440, 1800}},
		{bare(), []int64{360, 1800}},
		{bare(changeOf(impl.KFrom, from, 0, fullSky())), []int64{360, 1800}},
		{bare(changeOf(impl.KFrom, to-1, 0, fullSky())), []int64{360, 1799, 1800}},
		{bare(changeOf(impl.KTempo, from, to, rain())), []int64{360, 1800}},
		{bare(times(10, changeOf(impl.KProb, from+60, to-60, rain()))...), []int64{360, 420, 1740, 1800}},
		{bare(changeOf(impl.KTempo, from, from+60, rain()), changeOf(impl.KTempo, from+60, from+120, rain()), changeOf(impl.KFrom, from+120, 0, fullSky()), changeOf(impl.KBecoming, from+120, from+180, rain()), changeOf(impl.KProb, from+120, from+180, rain())), []int64{360, 420, 480, 540, 1800}},
		{bare(changeOf(impl.KFrom, from+1, 0, fullSky()), changeOf(impl.KFrom, from+1, 0, fullSky()), changeOf(impl.KFrom, from+2, 0, fullSky())), []int64{360, 361, 362, 1800}},
		{validFrom(from, from+60), []int64{360, 420}},
	} {
		f := morning()
		c.edit(&f)
		var want []impl.Span
		for i := range c.ends[1:] {
			want = append(want, impl.Span{From: midnight + c.ends[i], To: midnight + c.ends[i+1]})
		}
		if got := impl.Parts(f); !slices.Equal(got, want) {
			t.Errorf("Parts(%v) = %v and not %v", f, got, want)
		}
	}
}

func TestWorstSightByHand(t *testing.T) {
	from, to := clockAt(6, 0), clockAt(30, 0)
	seeing := func(vis int64) impl.Sky { return skyOf(-1, 0, vis, "", "", 0) }
	fullOf := func(vis int64) impl.Sky { return impl.Laid(fullSky(), seeing(vis)) }
	for _, c := range []struct {
		list []impl.Change
		vis  int64
		want int64
	}{
		{nil, 9999, 9999}, {nil, 0, 0}, {nil, 800, 800},
		// By what holds, by what may be.
		{[]impl.Change{changeOf(impl.KFrom, from+60, 0, fullOf(300))}, 9999, 300}, {[]impl.Change{changeOf(impl.KFrom, from+60, 0, fullOf(9000))}, 500, 500}, {[]impl.Change{changeOf(impl.KFrom, to-1, 0, fullOf(0))}, 9999, 0},
		{[]impl.Change{changeOf(impl.KBecoming, from, from+60, seeing(300))}, 9999, 300}, {[]impl.Change{changeOf(impl.KBecoming, to-60, to, seeing(300))}, 9999, 300}, {[]impl.Change{changeOf(impl.KBecoming, from, to, seeing(9999))}, 700, 700},
		{[]impl.Change{changeOf(impl.KTempo, from+60, from+120, seeing(200))}, 9999, 200}, {[]impl.Change{changeOf(impl.KProb, to-60, to, seeing(0))}, 9999, 0}, {[]impl.Change{changeOf(impl.KTempo, from, to, seeing(9999))}, 600, 600}, {[]impl.Change{changeOf(impl.KTempo, from, to, rain())}, 600, 600},
		// What never holds does not count, what holds for a minute does.
		{[]impl.Change{changeOf(impl.KFrom, from, 0, fullOf(5000))}, 100, 5000}, {[]impl.Change{changeOf(impl.KFrom, from+1, 0, fullOf(5000))}, 100, 100},
		{[]impl.Change{changeOf(impl.KFrom, from+60, 0, fullOf(10)), changeOf(impl.KFrom, from+60, 0, fullOf(5000))}, 8000, 5000}, {[]impl.Change{changeOf(impl.KFrom, from+60, 0, fullOf(10)), changeOf(impl.KFrom, from+61, 0, fullOf(5000))}, 8000, 10},
		// The sight that holds while something without a sight may be.
		{[]impl.Change{changeOf(impl.KTempo, from, to, rain()), changeOf(impl.KBecoming, from, from+60, seeing(4000)), changeOf(impl.KFrom, from+120, 0, fullOf(6000))}, 7000, 4000},
	} {
		f := morning()
		f.Sky, f.Changes = fullOf(c.vis), c.list
		if got := impl.WorstSight(f); got != c.want {
			t.Errorf("WorstSight(%v) = %d and not %d", f, got, c.want)
		}
	}
	if got := impl.WorstSight(morning()); got != 500 {
		t.Error("the morning", got)
	}
}
