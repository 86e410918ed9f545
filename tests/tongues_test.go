package tests

import (
	"fmt"
	"math"
	"slices"
	"strings"
	"testing"
	"unicode"
	"unicode/utf8"

	"loop.example/g00051/impl"
)

func sayOf(dir, force, later, rain, places int64) impl.Say {
	return impl.Say{Dir: dir, Force: force, Later: later, Rain: rain, Places: places}
}

// speech is a tongue as the chapter's table has it: whole sentences, with marks where words and numbers come.
type speech struct {
	calm, wind      string
	eighths         []string
	rising, falling string
	dry, rain       string
	rains           []string
	one, others     string
}

func speechOf(tongue int64) speech {
	return []speech{{}, {
		"calm", "D F", strings.Split("north-east, east, south-east, south, south-west, west, north-west, north", ", "), ", rising to L", ", falling to L",
		"dry", "R in N P", strings.Split("rain, snow, hail", ", "), "place", "places",
	}, {
		"windstill", "D Stärke F", strings.Split("Nordost, Ost, Südost, Süd, Südwest, West, Nordwest, Nord", ", "), ", zunehmend L", ", abnehmend L",
		"trocken", "R an N P", strings.Split("Regen, Schnee, Hagel", ", "), "Ort", "Orten",
	}, {
		"cisza", "wiatr D, siła F", strings.Split("północno-wschodni, wschodni, południowo-wschodni, południowy, południowo-zachodni, zachodni, północno-zachodni, północny", ", "), ", wzrost do L", ", spadek do L",
		"sucho", "R w N P", strings.Split("deszcz, śnieg, grad", ", "), "miejscu", "miejscach",
	}}[tongue]
}

// saidBySteps puts words and numbers into the places of the marks.
func saidBySteps(s impl.Say, tongue int64) string {
	sp := speechOf(tongue)
	wind, rain := sp.calm, sp.dry
	if s.Dir > 0 {
		wind = strings.NewReplacer("D", sp.eighths[s.Dir-1], "F", fmt.Sprint(s.Force)).Replace(sp.wind)
	}
	if s.Later > s.Force {
		wind += strings.Replace(sp.rising, "L", fmt.Sprint(s.Later), 1)
	}
	if s.Later < s.Force {
		wind += strings.Replace(sp.falling, "L", fmt.Sprint(s.Later), 1)
	}
	if s.Rain > 0 {
		where := sp.others
		if s.Places == 1 {
			where = sp.one
		}
		rain = strings.NewReplacer("R", sp.rains[s.Rain-1], "N", fmt.Sprint(s.Places), "P", where).Replace(sp.rain)
	}
	return wind + ". " + rain + "."
}

// allWinds are the Says of all winds, all dry.
func allWinds() []impl.Say {
	var list []impl.Say
	for later := range int64(13) {
		list = append(list, sayOf(0, 0, later, 0, 0))
		for dir := int64(1); dir <= 8; dir++ {
			for force := int64(1); force <= 12; force++ {
				list = append(list, sayOf(dir, force, later, 0, 0))
			}
		}
	}
	return list
}

// allRains are the Says of all rains, all calm.
func allRains() []impl.Say {
	list := []impl.Say{{}}
	for rain := int64(1); rain <= 3; rain++ {
		for places := int64(1); places <= 100; places++ {
			list = append(list, sayOf(0, 0, 0, rain, places))
		}
	}
	return list
}

// heardOf has all sentences of a tongue, and what they say.
type heardOf struct {
	winds, rains map[string]impl.Say
}

func allHeard(t *testing.T) [4]heardOf {
	t.Helper()
	var heard [4]heardOf
	for tongue := int64(1); tongue <= 3; tongue++ {
		heard[tongue] = heardOf{map[string]impl.Say{}, map[string]impl.Say{}}
		calm, dry := speechOf(tongue).calm+". ", ". "+speechOf(tongue).dry+"."
		for _, s := range allWinds() {
			heard[tongue].winds[strings.TrimSuffix(saidBySteps(s, tongue), dry)] = s
		}
		for _, s := range allRains() {
			heard[tongue].rains[strings.TrimPrefix(saidBySteps(s, tongue), calm)] = s
		}
		if len(heard[tongue].winds) != 13*97 || len(heard[tongue].rains) != 301 {
			t.Fatal(len(heard[tongue].winds), "winds,", len(heard[tongue].rains), "rains")
		}
	}
	return heard
}

// read looks both sentences up, wherever the text may be parted.
func (h heardOf) read(text string) (impl.Say, bool) {
	for i := range len(text) {
		if i+2 > len(text) || text[i:i+2] != ". " {
			continue
		}
		wind, blows := h.winds[text[:i]]
		rain, falls := h.rains[text[i+2:]]
		if blows && falls {
			return sayOf(wind.Dir, wind.Force, wind.Later, rain.Rain, rain.Places), true
		}
	}
	return impl.Say{}, false
}

func TestPhrasesByHand(t *testing.T) {
	for _, c := range []struct {
		s     impl.Say
		texts [3]string
	}{
		{sayOf(0, 0, 0, 0, 0), [3]string{"calm. dry.", "windstill. trocken.", "cisza. sucho."}},
		{sayOf(0, 0, 1, 0, 0), [3]string{"calm, rising to 1. dry.", "windstill, zunehmend 1. trocken.", "cisza, wzrost do 1. sucho."}},
		{sayOf(0, 0, 12, 1, 1), [3]string{"calm, rising to 12. rain in 1 place.", "windstill, zunehmend 12. Regen an 1 Ort.", "cisza, wzrost do 12. deszcz w 1 miejscu."}},
		{sayOf(1, 1, 1, 0, 0), [3]string{"north-east 1. dry.", "Nordost Stärke 1. trocken.", "wiatr północno-wschodni, siła 1. sucho."}},
		{sayOf(2, 1, 0, 1, 2), [3]string{"east 1, falling to 0. rain in 2 places.", "Ost Stärke 1, abnehmend 0. Regen an 2 Orten.", "wiatr wschodni, siła 1, spadek do 0. deszcz w 2 miejscach."}},
		{sayOf(3, 2, 3, 2, 1), [3]string{"south-east 2, rising to 3. snow in 1 place.", "Südost Stärke 2, zunehmend 3. Schnee an 1 Ort.", "wiatr południowo-wschodni, siła 2, wzrost do 3. śnieg w 1 miejscu."}},
		{sayOf(4, 12, 11, 2, 10), [3]string{"south 12, falling to 11. snow in 10 places.", "Süd Stärke 12, abnehmend 11. Schnee an 10 Orten.", "wiatr południowy, siła 12, spadek do 11. śnieg w 10 miejscach."}},
		{sayOf(5, 7, 9, 2, 1), [3]string{"south-west 7, rising to 9. snow in 1 place.", "Südwest Stärke 7, zunehmend 9. Schnee an 1 Ort.", "wiatr południowo-zachodni, siła 7, wzrost do 9. śnieg w 1 miejscu."}},
		{sayOf(6, 10, 10, 3, 1), [3]string{"west 10. hail in 1 place.", "West Stärke 10. Hagel an 1 Ort.", "wiatr zachodni, siła 10. grad w 1 miejscu."}},
		{sayOf(7, 12, 12, 3, 100), [3]string{"north-west 12. hail in 100 places.", "Nordwest Stärke 12. Hagel an 100 Orten.", "wiatr północno-zachodni, siła 12. grad w 100 miejscach."}},
		{sayOf(8, 4, 4, 3, 21), [3]string{"north 4. hail in 21 places.", "Nord Stärke 4. Hagel an 21 Orten.", "wiatr północny, siła 4. grad w 21 miejscach."}},
		{sayOf(8, 1, 12, 1, 100), [3]string{"north 1, rising to 12. rain in 100 places.", "Nord Stärke 1, zunehmend 12. Regen an 100 Orten.", "wiatr północny, siła 1, wzrost do 12. deszcz w 100 miejscach."}},
		{sayOf(8, 12, 1, 1, 99), [3]string{"north 12, falling to 1. rain in 99 places.", "Nord Stärke 12, abnehmend 1. Regen an 99 Orten.", "wiatr północny, siła 12, spadek do 1. deszcz w 99 miejscach."}},
	} {
		for i, want := range c.texts {
			tongue := int64(i) + 1
			if got := impl.Phrase(c.s, tongue); got != want {
				t.Errorf("Phrase(%v, %d) = %q and not %q", c.s, tongue, got, want)
			}
			if got, ok := impl.ReadPhrase(want, tongue); got != c.s || !ok {
				t.Errorf("ReadPhrase(%q, %d) = %v, %v", want, tongue, got, ok)
			}
		}
	}
}

// Promise 23: what is said is written as the table says, read back, and by no other tongue.
func keepsTwentyThree(t *testing.T, s impl.Say, tongue int64) string {
	t.Helper()
	text := impl.Phrase(s, tongue)
	if want := saidBySteps(s, tongue); text != want {
		t.Fatalf("Phrase(%v, %d) = %q and not %q", s, tongue, text, want)
	}
	for other := int64(0); other <= 4; other++ {
		got, ok := impl.ReadPhrase(text, other)
		if other == tongue && (got != s || !ok) || other != tongue && (got != impl.Say{} || ok) {
			t.Fatalf("ReadPhrase(%q, %d) = %v, %v", text, other, got, ok)
		}
	}
	return text
}

func TestAllPhrases(t *testing.T) {
	for tongue := int64(1); tongue <= 3; tongue++ {
		seen := map[string]impl.Say{}
		keeps := func(wind, rain impl.Say) {
			s := sayOf(wind.Dir, wind.Force, wind.Later, rain.Rain, rain.Places)
			text := keepsTwentyThree(t, s, tongue)
			if other, twice := seen[text]; twice && other != s {
				t.Fatalf("%q is said of %v and of %v", text, other, s)
			}
			seen[text] = s
		}
		for _, wind := range allWinds() {
			for _, rain := range []impl.Say{{}, sayOf(0, 0, 0, 1, 1), sayOf(0, 0, 0, 2, 2), sayOf(0, 0, 0, 3, 100)} {
				keeps(wind, rain)
			}
		}
		for _, rain := range allRains() {
			for _, wind := range []impl.Say{{}, sayOf(0, 0, 1, 0, 0), sayOf(1, 1, 1, 0, 0), sayOf(8, 12, 0, 0, 0), sayOf(4, 3, 12, 0, 0)} {
				keeps(wind, rain)
			}
		}
		d := dice(2301)
		winds, rains := allWinds(), allRains()
		for range 3000 {
			keeps(winds[d.below(13*97)], rains[d.below(301)])
		}
	}
}

// rightSays are those that come of a wind and a rain.
func rightSays() map[impl.Say]bool {
	right := map[impl.Say]bool{}
	for _, wind := range allWinds() {
		for _, rain := range allRains() {
			if slices.Contains([]int64{0, 1, 2, 100}, rain.Places) {
				right[sayOf(wind.Dir, wind.Force, wind.Later, rain.Rain, rain.Places)] = true
			}
		}
	}
	return right
}

func TestEdgesOfSays(t *testing.T) {
	right := rightSays()
	wrong := 0
	asks := func(s impl.Say) {
		for _, tongue := range []int64{0, 1, 2, 3, 4, -1, math.MaxInt64, math.MinInt64} {
			want := ""
			if right[s] && tongue >= 1 && tongue <= 3 {
				want = saidBySteps(s, tongue)
			} else {
				wrong++
			}
			if got := impl.Phrase(s, tongue); got != want {
				t.Fatalf("Phrase(%v, %d) = %q and not %q", s, tongue, got, want)
			}
		}
	}
	forces := []int64{-1, 0, 1, 2, 11, 12, 13}
	for _, dir := range []int64{-1, 0, 1, 8, 9} {
		for _, force := range forces {
			for _, later := range forces {
				for _, rain := range []int64{-1, 0, 1, 3, 4} {
					for _, places := range []int64{-1, 0, 1, 2, 100, 101} {
						asks(sayOf(dir, force, later, rain, places))
					}
				}
			}
		}
	}
	for _, far := range []int64{math.MinInt64, math.MaxInt64, -100, 256, 1 << 32, 1<<32 + 1} {
		for _, s := range []impl.Say{sayOf(far, 1, 1, 1, 1), sayOf(1, far, 1, 1, 1), sayOf(1, 1, far, 1, 1), sayOf(1, 1, 1, far, 1), sayOf(1, 1, 1, 1, far), sayOf(0, 0, far, 0, 0), sayOf(far, far, far, far, far)} {
			asks(s)
		}
	}
	if wrong < 30000 {
		t.Error("only", wrong, "wrong ones")
	}
}

func unread(t *testing.T, text string, tongue int64) {
	t.Helper()
	if got, ok := impl.ReadPhrase(text, tongue); got != (impl.Say{}) || ok {
		t.Errorf("ReadPhrase(%.60q, %d) = %v, %v", text, tongue, got, ok)
	}
}

func TestTextsThatSayNothing(t *testing.T) {
	for _, text := range []string{
		"", " ", ".", ". ", ". .", "..", "calm", "calm.", "calm. ", "calm. dry", "calm.dry.", "calm.  dry.", "calm . dry.", "calm. dry..", "calm. dry. ", " calm. dry.", "calm. dry.\n", "calm. dry. calm. dry.", "calm. dry. dry.", "calm. calm. dry.", "calm, dry.", "calm, dry. ", "dry. calm.", "dry. dry.", ". dry.", "calm. .",
		// Letters in the other case.
		"Calm. dry.", "calm. Dry.", "CALM. DRY.", "North 4. dry.", "calm. Rain in 1 place.", "calm. rain In 1 place.", "calm. rain in 1 Place.", "calm, Rising to 4. dry.", "north-East 4. dry.",
		// A change that is none, or goes the other way.
		"calm, rising to 0. dry.", "calm, falling to 0. dry.", "calm, falling to 1. dry.", "calm, rising to 13. dry.", "calm, rising to . dry.", "calm, rising to -1. dry.", "north 4, rising to 4. dry.", "north 4, falling to 4. dry.", "north 4, rising to 3. dry.", "north 4, falling to 5. dry.", "north 4, rising to 13. dry.", "north 4, falling to -1. dry.", "north 4, rising to 5, rising to 6. dry.", "north 4, rising to 5, falling to 3. dry.", "north 4, falling to 3, rising to 5. dry.", "north 4, rising 5. dry.", "north 4 rising to 5. dry.", "north 4 , rising to 5. dry.", "north 4,rising to 5. dry.", "north 4, rising to  5. dry.", "north 4, rising to 5.. dry.", ", rising to 5. dry.", "calm 0. dry.", "calm 4. dry.", "calm north 4. dry.", "north calm. dry.",
		// Directions and forces that are none.
		"north. dry.", "north . dry.", "north 0. dry.", "north 13. dry.", "north 04. dry.", "north 4 . dry.", "north  4. dry.", "north 4.0. dry.", "north +4. dry.", "north -4. dry.", "north four. dry.", "4 north. dry.", "4. dry.", " 4. dry.", "northeast 4. dry.", "north east 4. dry.", "north-north 4. dry.", "north-east4. dry.", "east-north 4. dry.", "nort 4. dry.", "northh 4. dry.", "north 12345678901234567890. dry.", "north 18446744073709551620. dry.", "north 4294967300. dry.", "north 260. dry.", "north \u0664. dry.", "north \uff14. dry.",
		// Rains and places that are none.
		"calm. rain.", "calm. rain in.", "calm. rain in 0 places.", "calm. rain in 0 place.", "calm. rain in 101 places.", "calm. rain in 1 places.", "calm. rain in 2 place.", "calm. rain in 100 place.", "calm. rain in 01 place.", "calm. rain in 02 places.", "calm. rain in 002 places.", "calm. rain in -1 places.", "calm. rain in +1 place.", "calm. rain in  places.", "calm. rain in places.", "calm. rain in 2places.", "calm. rain in 2  places.", "calm. rain in  2 places.", "calm. rain  in 2 places.", "calm. rain in 2 places .", "calm. rain at 2 places.", "calm. rains in 2 places.", "calm. sleet in 2 places.", "calm. rain snow in 2 places.", "calm. dry in 2 places.", "calm. in 2 places.", "calm. rain in 2 places. dry.", "calm. rain in 2 places and more.", "calm. rain in 18446744073709551618 places.", "calm. rain in 4294967298 places.", "calm. rain in 258 places.", "calm. rain in 2 placess.",
		// Words of another tongue.
		"windstill. dry.", "calm. trocken.", "Nord 4. dry.", "calm. Regen in 2 places.", "calm, zunehmend 4. dry.", "north Stärke 4. dry.", "wiatr north 4. dry.", "north, siła 4. dry.",
	} {
		unread(t, text, 1)
	}
	for _, text := range []string{
		"Windstill. trocken.", "windstill. Trocken.", "nord Stärke 4. trocken.", "Nord stärke 4. trocken.", "Nord Staerke 4. trocken.", "Nord Sta\u0308rke 4. trocken.", "Nord St\xe4rke 4. trocken.", "Nord 4. trocken.", "Nord Stärke  4. trocken.", "Nord Stärke 04. trocken.", "Sud Stärke 4. trocken.", "Sued Stärke 4. trocken.", "Su\u0308d Stärke 4. trocken.", "SÜD Stärke 4. trocken.", "NordWest Stärke 4. trocken.", "windstill, zunehmend 0. trocken.", "windstill, abnehmend 0. trocken.", "Nord Stärke 4, zunehmend 4. trocken.", "Nord Stärke 4, zunehmend auf 5. trocken.", "windstill. Regen an 1 Orten.", "windstill. Regen an 2 Ort.", "windstill. Regen an 2 Orte.", "windstill. Regen in 2 Orten.", "windstill. regen an 2 Orten.", "windstill. Regen an 2 orten.", "windstill. Regen an 101 Orten.", "windstill. trocken", "windstill. trocken. ", "windstill.  trocken.", "windstill Stärke 0. trocken.", "wiatr Nord Stärke 4. trocken.", "calm. dry.", "cisza. sucho.",
	} {
		unread(t, text, 2)
	}
	for _, text := range []string{
		"Cisza. sucho.", "cisza. Sucho.", "Wiatr północny, siła 4. sucho.", "wiatr Północny, siła 4. sucho.", "wiatr polnocny, siła 4. sucho.", "wiatr północny, sila 4. sucho.", "wiatr po\u0142no\u0301cny, siła 4. sucho.", "wiatr północny siła 4. sucho.", "wiatr północny,siła 4. sucho.", "wiatr północny, siła. sucho.", "północny, siła 4. sucho.", "wiatr  północny, siła 4. sucho.", "wiatr wiatr północny, siła 4. sucho.", "wiatr cisza. sucho.", "wiatr, siła 4. sucho.", "wiatr , siła 4. sucho.", "wiatr północny, siła 4, wzrost do 4. sucho.", "wiatr północny, siła 4, wzrost 5. sucho.", "wiatr północny, siła 0. sucho.", "wiatr północny, siła 013. sucho.", "cisza, wzrost do 0. sucho.", "cisza, spadek do 0. sucho.", "cisza, siła 0. sucho.", "cisza. śnieg w 1 miejscach.", "cisza. śnieg w 2 miejscu.", "cisza. snieg w 2 miejscach.", "cisza. śnieg we 2 miejscach.", "cisza. śnieg w 0 miejscach.", "cisza. śnieg w 101 miejscach.", "cisza. śnieg w 2 miejscach", "cisza. śnieg w 2 miejscach.\x00", "calm. dry.", "windstill. trocken.",
	} {
		unread(t, text, 3)
	}
	for _, tongue := range []int64{1, 2, 3} {
		for _, text := range []string{strings.Repeat("calm. dry.", 5000), strings.Repeat(". ", 20000), strings.Repeat("9", 60000), "north " + strings.Repeat("9", 60000) + ". dry.", "calm. rain in " + strings.Repeat("0", 60000) + "1 place.", "\xff", "calm\xff. dry.", "\u2026"} {
			unread(t, text, tongue)
		}
	}
}

func TestTonguesThatAreNone(t *testing.T) {
	for _, tongue := range []int64{0, 4, -1, 5, 257, 1<<32 + 1, math.MaxInt64, math.MinInt64} {
		for _, text := range []string{"", "calm. dry.", "windstill. trocken.", "cisza. sucho.", ". .", "north 4. dry."} {
			unread(t, text, tongue)
		}
	}
}

// spoiltTexts have a piece more, a piece less or another one, at each place.
func spoiltTexts(text string) []string {
	var list []string
	for i := range len(text) + 1 {
		for _, piece := range []string{" ", ".", ",", "0", "1", "2", "s", "-", "\u00a0", "\n"} {
			list = append(list, text[:i]+piece+text[i:])
		}
		list = append(list, text[:i], text[i:])
		if i == len(text) {
			break
		}
		list = append(list, text[:i]+text[i+1:], text[:i]+text[i:i+1]+text[i:])
		for _, b := range []byte(" .,019an\xc5") {
			list = append(list, text[:i]+string([]byte{b})+text[i+1:])
		}
	}
	for i, r := range text {
		size := utf8.RuneLen(r)
		for _, other := range []rune{unicode.ToUpper(r), unicode.ToLower(r)} {
			list = append(list, text[:i]+string(other)+text[i+size:])
		}
		list = append(list, text[:i]+text[i+size:])
	}
	return append(list, strings.ToUpper(text), strings.ToLower(text), strings.ReplaceAll(text, " ", "  "), text+text, text+" "+text)
}

// Promise 23: a text is read as what is said so, and no other text is read.
func TestSpoiltPhrases(t *testing.T) {
	heard := allHeard(t)
	winds, rains := allWinds(), allRains()
	d := dice(2302)
	readable, others := 0, 0
	for i := range 120 {
		wind, rain := winds[d.below(13*97)], rains[d.below(301)]
		if i%6 == 0 {
			wind = sayOf(0, 0, d.below(13), 0, 0)
		}
		if i%5 == 0 {
			rain = []impl.Say{{}, sayOf(0, 0, 0, 1+d.below(3), 1)}[d.below(2)]
		}
		said := int64(1 + i%3)
		text := saidBySteps(sayOf(wind.Dir, wind.Force, wind.Later, rain.Rain, rain.Places), said)
		for _, spoilt := range append(spoiltTexts(text), text) {
			for tongue := int64(1); tongue <= 3; tongue++ {
				want, wanted := heard[tongue].read(spoilt)
				got, ok := impl.ReadPhrase(spoilt, tongue)
				if got != want || ok != wanted {
					t.Fatalf("ReadPhrase(%q, %d) = %v, %v and not %v, %v", spoilt, tongue, got, ok, want, wanted)
				}
				if ok {
					readable++
				} else {
					others++
				}
			}
		}
	}
	if readable < 500 || others < 100000 {
		t.Error(readable, "are read,", others, "are not")
	}
}

// titleBySteps takes the text apart, a bad byte being a piece of its own.
func titleBySteps(text string, most int64) string {
	if most < 1 || most > 1000 || len(text) > 20000 {
		return ""
	}
	var pieces []string
	for len(text) > 0 {
		_, size := utf8.DecodeRuneInString(text)
		pieces, text = append(pieces, text[:size]), text[size:]
	}
	kept := pieces[:min(int64(len(pieces)), most)]
	left := len(pieces) - len(kept)
	for len(kept) > 0 && kept[len(kept)-1] == " " {
		kept = kept[:len(kept)-1]
	}
	if left > 0 {
		return strings.Join(kept, "") + "\xe2\x80\xa6"
	}
	return strings.Join(kept, "")
}

func titleIs(t *testing.T, text string, most int64) string {
	t.Helper()
	got := impl.Title(text, most)
	if want := titleBySteps(text, most); got != want {
		t.Fatalf("Title(%.60q, %d) = %.60q and not %.60q", text, most, got, want)
	}
	return got
}

func TestTitlesByHand(t *testing.T) {
	const cut = "\u2026"
	full := strings.Repeat("a", 1000)
	for _, c := range []struct {
		text string
		most int64
		want string
	}{
		{"", 1, ""}, {"", 1000, ""}, {"", 0, ""}, {" ", 1, ""}, {"  ", 5, ""}, {"  ", 2, ""}, {"  ", 1, cut}, {"   a", 3, cut}, {"   a", 4, "   a"}, {"   a", 1, cut},
		{"a", 0, ""}, {"a", -1, ""}, {"a", 1001, ""}, {"a", math.MaxInt64, ""}, {"a", math.MinInt64, ""}, {"a", 1, "a"}, {"a", 1000, "a"}, {"ab", 1, "a" + cut}, {"ab", 2, "ab"}, {"abc", 2, "ab" + cut},
		{full, 1000, full}, {full + "b", 1000, full + cut}, {full + "b", 999, full[:999] + cut}, {full, 999, full[:999] + cut}, {full, 1001, ""}, {full + " ", 1000, full + cut}, {full[:999] + " ", 1000, full[:999]}, {full[:999] + " b", 1000, full[:999] + cut},
		// Blanks just ahead of the cut, at the end and behind the cut.
		{"a b", 2, "a" + cut}, {"a  b", 3, "a" + cut}, {"a  b", 2, "a" + cut}, {"a  b", 1, "a" + cut}, {"a ", 2, "a"}, {"a ", 1, "a" + cut}, {"a   ", 9, "a"}, {"a   ", 4, "a"}, {"a   ", 3, "a" + cut}, {"a b ", 4, "a b"}, {" a", 2, " a"}, {" a ", 3, " a"}, {" a b", 3, " a" + cut},
		// Nothing but the blank is taken off.
		{"a\t", 2, "a\t"}, {"a\n", 5, "a\n"}, {"a\u00a0", 2, "a\u00a0"}, {"a\u2003b", 2, "a\u2003" + cut}, {"a \n", 3, "a \n"}, {"a\n ", 3, "a\n"}, {"a\x00", 2, "a\x00"}, {"a.", 2, "a."}, {"a..", 2, "a." + cut}, {"a" + cut, 2, "a" + cut}, {"a" + cut, 1, "a" + cut}, {"a" + cut + "b", 2, "a" + cut + cut},
		// Runes of two, three and four bytes.
		{"über", 2, "üb" + cut}, {"über", 1, "ü" + cut}, {"über", 4, "über"}, {"über", 3, "übe" + cut}, {"Straße 7", 8, "Straße 7"}, {"Straße 7", 7, "Straße" + cut}, {"Straße 7", 6, "Straße" + cut}, {"Straße 7", 5, "Straß" + cut}, {"€uro", 1, "€" + cut}, {"€€", 2, "€€"}, {"\U0001F327\U0001F327", 1, "\U0001F327" + cut}, {"\U0001F327\U0001F327", 2, "\U0001F327\U0001F327"}, {"a\u0308b", 1, "a" + cut}, {"a\u0308b", 2, "a\u0308" + cut}, {"\ufffd\ufffd", 1, "\ufffd" + cut},
		// Bad bytes, each of them one, and they stay.
		{"\xff", 1, "\xff"}, {"\xff\xfe", 1, "\xff" + cut}, {"\xff\xfe", 2, "\xff\xfe"}, {"\xc3", 1, "\xc3"}, {"\xc3a", 1, "\xc3" + cut}, {"\xe2\x80", 1, "\xe2" + cut}, {"\xe2\x80", 2, "\xe2\x80"}, {"\xe2\x80b", 2, "\xe2\x80" + cut}, {"\xc0\xa0x", 2, "\xc0\xa0" + cut}, {"\xed\xa0\x80x", 2, "\xed\xa0" + cut}, {"\xf4\x90\x80\x80x", 4, "\xf4\x90\x80\x80" + cut}, {"a\xff ", 3, "a\xff"}, {" \xff", 1, cut},
		// As many bytes as may be, and one more.
		{strings.Repeat("a", 20000), 1, "a" + cut}, {strings.Repeat("a", 20001), 1, ""}, {strings.Repeat(" ", 20000), 1000, cut}, {strings.Repeat(" ", 20001), 1000, ""}, {strings.Repeat("ü", 10000), 1, "ü" + cut}, {strings.Repeat("ü", 10000) + "a", 1, ""}, {strings.Repeat("\xff", 20000), 2, "\xff\xff" + cut}, {strings.Repeat("\xff", 20001), 2, ""}, {strings.Repeat("\U0001F327", 5000), 1000, strings.Repeat("\U0001F327", 1000) + cut},
	} {
		if got := impl.Title(c.text, c.most); got != c.want {
			t.Errorf("Title(%.40q, %d) = %.40q and not %.40q", c.text, c.most, got, c.want)
		}
		titleIs(t, c.text, c.most)
	}
}

func TestRolledTitles(t *testing.T) {
	d := dice(2303)
	pieces := []string{" ", " ", " ", "a", "b", "ü", "ł", "€", "\u2026", "\U0001F327", "\xff", "\xc3", "\xe2\x80", "\n", "\u00a0", "\t"}
	cuts := 0
	for range 20000 {
		var text strings.Builder
		for range d.below(30) {
			text.WriteString(pieces[d.below(int64(len(pieces)))])
		}
		got := titleIs(t, text.String(), d.below(32))
		if strings.HasSuffix(got, "\u2026") {
			cuts++
		}
	}
	for _, text := range append(someTexts(300), strings.Repeat("ab ", 400), strings.Repeat("ü ", 700)) {
		for _, most := range []int64{1, 2, 3, 10, 399, 999, 1000, 1001} {
			titleIs(t, text, most)
		}
	}
	if cuts < 5000 {
		t.Error("only", cuts, "cuts")
	}
}

func TestBeaufort(t *testing.T) {
	speeds := []float64{0, 0.3, 1.6, 3.4, 5.5, 8, 10.8, 13.9, 17.2, 20.8, 24.5, 28.5, 32.7}
	for k, speed := range speeds {
		for _, c := range []struct {
			speed float64
			want  int
		}{{speed, k}, {math.Nextafter(speed, high), k}, {math.Nextafter(speed, low), k - 1}, {speed + 0.1, k}} {
			if got := impl.Beaufort(c.speed); got != int64(c.want) {
				t.Errorf("Beaufort(%v) = %d and not %d", c.speed, got, c.want)
			}
		}
	}
	for _, c := range []struct {
		speed float64
		want  int64
	}{
		{0, 0}, {below0, 0}, {least, 0}, {-least, -1}, {-0.1, -1}, {-1, -1}, {-100, -1}, {-most, -1}, {low, -1}, {none, -1}, {payload, -1}, {-none, -1}, {high, 12}, {most, 12}, {32.69, 11}, {33, 12}, {100, 12}, {0.2, 0}, {1, 1}, {2, 2}, {5, 3}, {7.9, 4}, {10, 5}, {13, 6}, {17, 7}, {20, 8}, {24, 9}, {28, 10}, {32, 11},
	} {
		if got := impl.Beaufort(c.speed); got != c.want {
			t.Errorf("Beaufort(%v) = %d and not %d", c.speed, got, c.want)
		}
	}
	last := int64(0)
	for n := range 4000 {
		// Speeds in hundredths; the bounds are tenths, so whole numbers tell them apart.
		want := int64(-1)
		for _, bound := range []int{0, 30, 160, 340, 550, 800, 1080, 1390, 1720, 2080, 2450, 2850, 3270} {
			if n >= bound {
				want++
			}
		}
		got := impl.Beaufort(float64(n) / 100)
		if got != want || got < last {
			t.Errorf("Beaufort(%v) = %d and not %d", float64(n)/100, got, want)
		}
		last = got
	}
}
