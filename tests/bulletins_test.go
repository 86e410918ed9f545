package tests

import (
	"math"
	"slices"
	"strconv"
	"strings"
	"testing"

	"loop.example/g00051/impl"
)

// piece is a rune of a text, or a bad byte, and the bytes that say it.
type piece struct {
	code int
	text string
}

const badCode = -1

// piecesOf reads UTF-8 bit by bit, by itself, so that it can be held against the program's reading.
func piecesOf(text string) []piece {
	var list []piece
	for i := 0; i < len(text); {
		code, size := runeOf(text[i:])
		list = append(list, piece{code, text[i : i+size]})
		i += size
	}
	return list
}

func runeOf(text string) (code, size int) {
	lead := int(text[0])
	shortest := 0
	switch {
	case lead < 0x80:
		return lead, 1
	case lead&0xE0 == 0xC0:
		code, size, shortest = lead&0x1F, 2, 0x80
	case lead&0xF0 == 0xE0:
		code, size, shortest = lead&0x0F, 3, 0x800
	case lead&0xF8 == 0xF0:
		code, size, shortest = lead&0x07, 4, 0x10000
	default:
		return badCode, 1
	}
	if len(text) < size {
		return badCode, 1
	}
	for _, b := range []byte(text[1:size]) {
		if b&0xC0 != 0x80 {
			return badCode, 1
		}
		code = code<<6 | int(b&0x3F)
	}
	if code < shortest || code > 0x10FFFF || code >= 0xD800 && code <= 0xDFFF {
		return badCode, 1
	}
	return code, size
}

func cleanedBySteps(text string) string {
	cleaned := ""
	for _, p := range piecesOf(text) {
		switch {
		case p.code == badCode:
			cleaned += "?"
		case p.code == 13:
		case p.code != 10 && p.code < 32 || p.code >= 127 && p.code <= 159:
			cleaned += " "
		default:
			cleaned += p.text
		}
	}
	return cleaned
}

// oddTexts has each byte, the runes at which something changes, and sequences that say no rune.
func oddTexts() []string {
	list := []string{
		"", "a", "\xff", "\xfe", "\x80", "\xbf", "\xc0\x80", "\xc1\xbf", "\xc0\xaf", "\xc2", "\xc2\x7f", "\xc2\xc0", "\xc3\r\xa9",
		"\xe0\x80\x80", "\xe0\x9f\xbf", "\xe0\xa0\x80", "\xe2\x82", "\xe2\x82a", "\xe2\x82\xac", "\xef\xbf", "\xef\xbf\xbd", "\xef\xbf\xbe", "\xef\xbf\xbd\xef\xef\xbf",
		"\xed\x9f\xbf", "\xed\xa0\x80", "\xed\xad\xbf", "\xed\xb0\x80", "\xed\xbf\xbf", "\xee\x80\x80",
		"\xf0\x80\x80\x80", "\xf0\x8f\xbf\xbf", "\xf0\x90\x80\x80", "\xf0\x9f\x8c", "\xf0\x9f\x8c\xa7", "\xf4\x8f\xbf\xbf", "\xf4\x90\x80\x80", "\xf5\x80\x80\x80", "\xf8\x88\x80\x80\x80", "\xfc\x84\x80\x80\x80\x80",
		"a\nb\r\nc\td\x00e\x1ff g\x7eh\x7fi", "\u0080\u0081\u009f\u00a0\u00a1", "été æ 風 🌧",
	}
	for b := range 256 {
		list = append(list, string([]byte{byte(b)}), string([]byte{'x', byte(b), 'y'}))
	}
	for _, r := range []rune{126, 127, 128, 129, 133, 158, 159, 160, 161, 0x7FF, 0x800, 0xD7FF, 0xE000, 0xFFFC, 0xFFFD, 0xFFFE, 0xFFFF, 0x10000, 0x10FFFF} {
		list = append(list, string(r), "a"+string(r)+"b")
	}
	return list
}

func someTexts(count int) []string {
	list := oddTexts()
	d := dice(41)
	parts := []string{"a", "word", " ", "  ", "\n", "\r\n", "é", "ß", "\xff", "\xe2\x82", "\xf0\x9f", "\x80", "風", "🌧", "\u0085", "\ufffd", "\x01", "Q7", "longerword"}
	for range count {
		text := ""
		for range d.below(60) {
			text += parts[d.below(int64(len(parts)))]
		}
		list = append(list, text)
	}
	return list
}

func TestClean(t *testing.T) {
	for text, want := range map[string]string{
		"a\nb\r\nc":          "a\nb\nc",
		"\r":                 "",
		"\x1f \x7e\x7f":      "  ~ ",
		"\u0080\u009f\u00a0": "  \u00a0",
		"\xc0\xafz":          "??z",
		"\xed\xa0\x80":       "???",
		"\xf4\x90\x80\x80":   "????",
		"\xef\xbf\xbd\xff":   "\ufffd?",
		"\xe2\x82|\xe2\x82":  "??|??",
		"風 🌧\t\v\x00":        "風 🌧   ",
	} {
		if got := impl.Clean([]byte(text)); got != want {
			t.Errorf("Clean(%q) = %q", text, got)
		}
	}
	if got := impl.Clean(nil); got != "" {
		t.Errorf("%q", got)
	}
	for _, text := range someTexts(500) {
		if got := impl.Clean([]byte(text)); got != cleanedBySteps(text) {
			t.Errorf("Clean(%q) = %q", text, got)
		}
	}
}

// Promise 4: what was cleaned stays.
func TestCleanedStays(t *testing.T) {
	for _, text := range someTexts(500) {
		once := impl.Clean([]byte(text))
		if again := impl.Clean([]byte(once)); again != once {
			t.Errorf("%q, again %q", once, again)
		}
	}
}

// longTexts have just MaxText bytes, and one more.
func longTexts() (full, over string) {
	full = strings.Repeat("wind é ", impl.MaxText)[:impl.MaxText]
	return full, full + "x"
}

func TestMaxText(t *testing.T) {
	full, over := longTexts()
	if got := impl.Clean([]byte(full)); got != cleanedBySteps(full) || got == "" {
		t.Error("Clean of MaxText bytes", len(got))
	}
	if got := impl.Clean([]byte(over)); got != "" {
		t.Error("Clean of one more", len(got))
	}
	if got := impl.Upper(full); got != upperBySteps(full) || got == "" {
		t.Error("Upper of MaxText bytes", len(got))
	}
	if got := impl.Upper(over); got != "" {
		t.Error("Upper of one more", len(got))
	}
	if got := impl.Fold(full, 60); !slices.Equal(got, foldedBySteps(full, 60)) || len(got) == 0 {
		t.Error("Fold of MaxText bytes", len(got))
	}
	if got := impl.Fold(over, 60); len(got) != 0 {
		t.Error("Fold of one more", len(got))
	}
}

var madePlain = map[string]string{
	"ä": "AE", "Ä": "AE", "ö": "OE", "Ö": "OE", "ø": "OE", "Ø": "OE", "ü": "UE", "Ü": "UE", "å": "AA", "Å": "AA", "ß": "SS",
	"é": "E", "è": "E", "ê": "E", "É": "E", "È": "E", "Ê": "E", "á": "A", "à": "A", "â": "A", "Á": "A", "À": "A", "Â": "A", "ñ": "N", "Ñ": "N",
}

func upperBySteps(text string) string {
	upper := ""
	for _, p := range piecesOf(text) {
		plain, ok := madePlain[p.text]
		switch {
		case ok:
			upper += plain
		case p.code == badCode || p.code > 127:
			upper += "?"
		case p.code >= 97 && p.code <= 122:
			upper += string([]byte{byte(p.code - 32)})
		default:
			upper += p.text
		}
	}
	return upper
}

func TestUpper(t *testing.T) {
	if got := impl.Upper("`az{ @AZ[ 09\n\r\t\x00\x7f"); got != "`AZ{ @AZ[ 09\n\r\t\x00\x7f" {
		t.Errorf("%q", got)
	}
	for r := rune(128); r < 0x300; r++ {
		want, ok := madePlain[string(r)]
		if !ok {
			want = "?"
		}
		if got := impl.Upper("x" + string(r) + "y"); got != "X"+want+"Y" {
			t.Errorf("Upper of %q: %q", r, got)
		}
	}
	if got := impl.Upper("\u212b\u1e9e\ufffda\u0308\xe4\xc3"); got != "???A???" {
		t.Errorf("%q", got)
	}
	for _, text := range someTexts(500) {
		if got := impl.Upper(text); got != upperBySteps(text) {
			t.Errorf("Upper(%q) = %q", text, got)
		}
	}
}

// wordsIn parts a text byte by byte.
func wordsIn(text string) []string {
	return strings.Split(strings.Trim(squeezed(strings.ReplaceAll(text, "\n", " ")), " "), " ")
}

func squeezed(text string) string {
	for strings.Contains(text, "  ") {
		text = strings.ReplaceAll(text, "  ", " ")
	}
	return text
}

func foldedBySteps(text string, width int) []string {
	var lines []string
	line := ""
	end := func() {
		if line != "" {
			lines = append(lines, line)
		}
		line = ""
	}
	for _, word := range wordsIn(text) {
		left := piecesOf(word)
		if len(left) > width || line != "" && len(piecesOf(line))+1+len(left) > width {
			end()
		}
		for len(left) > width {
			lines = append(lines, textOf(left[:width]))
			left = left[width:]
		}
		if line != "" {
			line += " "
		}
		line += textOf(left)
	}
	end()
	return lines
}

func textOf(list []piece) string {
	text := ""
	for _, p := range list {
		text += p.text
	}
	return text
}

func TestFold(t *testing.T) {
	for _, c := range []struct {
		text  string
		width int64
		want  []string
	}{
		{"", 8, nil},
		{" \n  \n", 8, nil},
		{"  a \n\n b  ", 8, []string{"a b"}},
		{"abcd efg", 8, []string{"abcd efg"}},
		{"abcd efgh", 8, []string{"abcd", "efgh"}},
		{"abcdefgh", 8, []string{"abcdefgh"}},
		{"a abcdefgh b", 8, []string{"a", "abcdefgh", "b"}},
		{"abcdefghi", 8, []string{"abcdefgh", "i"}},
		{"a abcdefghi b", 8, []string{"a", "abcdefgh", "i b"}},
		{"abcdefghabcdefgh x", 8, []string{"abcdefgh", "abcdefgh", "x"}},
		{"abcdefghabcdefghij kl mno", 8, []string{"abcdefgh", "abcdefgh", "ij kl", "mno"}},
		{"éßñüöäåé風é", 8, []string{"éßñüöäåé", "風é"}},
		{"\xff\xfe\xe2\x82\xc3\xc3 \xff\xff", 8, []string{"\xff\xfe\xe2\x82\xc3\xc3", "\xff\xff"}},
		{"abcdefg\xe2\x82", 8, []string{"abcdefg\xe2", "\x82"}},
		{"a\tb\rc\u00a0d e", 8, []string{"a\tb\rc\u00a0d", "e"}},
	} {
		if got := impl.Fold(c.text, c.width); !slices.Equal(got, c.want) {
			t.Errorf("Fold(%q, %d) = %q", c.text, c.width, got)
		}
	}
}

func TestFoldWidths(t *testing.T) {
	word := strings.Repeat("ab", 150)
	for _, width := range []int64{7, 201, 0, -1, -8, math.MaxInt64, math.MinInt64, 1<<32 + 8} {
		if got := impl.Fold(word, width); len(got) != 0 {
			t.Errorf("width %d: %q", width, got)
		}
	}
	for _, width := range []int64{8, 9, 199, 200} {
		for _, count := range []int{int(width) - 1, int(width), int(width) + 1, 2*int(width) - 1, 2 * int(width), 2*int(width) + 1, 5 * int(width), 5*int(width) + 3} {
			for _, letter := range []string{"a", "é", "風", "🌧", "\xff"} {
				for _, text := range []string{strings.Repeat(letter, count), "x " + strings.Repeat(letter, count) + " y z"} {
					if got := impl.Fold(text, width); !slices.Equal(got, foldedBySteps(text, int(width))) {
						t.Errorf("%d times %q at width %d: %q", count, letter, width, got)
					}
				}
			}
		}
	}
}

// Promise 4: lines are not longer than they may be and say the whole text.
func TestFoldedLinesSayTheText(t *testing.T) {
	for _, text := range someTexts(700) {
		for _, width := range []int64{8, 9, 13, 40, 200} {
			lines := impl.Fold(text, width)
			if !slices.Equal(lines, foldedBySteps(text, int(width))) {
				t.Fatalf("Fold(%q, %d) = %q", text, width, lines)
			}
			for _, line := range lines {
				if n := len(piecesOf(line)); n > int(width) || n == 0 || squeezed(line) != line || strings.Trim(line, " \n") != line {
					t.Fatalf("Fold(%q, %d): line %q", text, width, line)
				}
			}
			if said, whole := strings.ReplaceAll(strings.Join(lines, ""), " ", ""), strings.Join(wordsIn(text), ""); said != whole {
				t.Fatalf("Fold(%q, %d) says %q", text, width, said)
			}
		}
	}
}

// rightMarks has all marks and what they say.
func rightMarks() map[string][2]int64 {
	marks := map[string][2]int64{"": {0, 0}}
	for n := range int64(24) {
		letter := string(rune('A' + n))
		marks["RR"+letter], marks["CC"+letter], marks["AA"+letter] = [2]int64{1, n + 1}, [2]int64{2, n + 1}, [2]int64{3, n + 1}
	}
	for n := range int64(676) {
		marks["P"+string(rune('A'+n/26))+string(rune('A'+n%26))] = [2]int64{4, n + 1}
	}
	return marks
}

func TestMarkOf(t *testing.T) {
	marks := rightMarks()
	if len(marks) != 1+3*24+676 {
		t.Fatal(len(marks))
	}
	for mark, want := range map[string][2]int64{"": {impl.MkNone, 0}, "RRA": {impl.MkDelay, 1}, "RRX": {impl.MkDelay, 24}, "CCA": {impl.MkCorrect, 1}, "CCX": {impl.MkCorrect, 24}, "AAA": {impl.MkAmend, 1}, "AAX": {impl.MkAmend, 24}, "PAA": {impl.MkPart, 1}, "PAZ": {impl.MkPart, 26}, "PBA": {impl.MkPart, 27}, "PZZ": {impl.MkPart, 676}} {
		if marks[mark] != want {
			t.Fatal(mark)
		}
	}
	// Each text of three bytes of these is asked, and the marks are among them.
	bytes := "@ABCPQRSWXYZ[az`{09 /\xff\x00"
	for i := range len(bytes) {
		for j := range len(bytes) {
			for k := range len(bytes) {
				mark := string([]byte{bytes[i], bytes[j], bytes[k]})
				if _, right := marks[mark]; !right {
					marks[mark] = [2]int64{-1, 0}
				}
			}
		}
	}
	for _, mark := range []string{"R", "RR", "RRAA", "RRA ", " RRA", "P", "PA", "PAAA", "CC", "AA", "A", " ", "   ", "RRÄ", "PÄ", "rra", strings.Repeat("A", 100000)} {
		marks[mark] = [2]int64{-1, 0}
	}
	for mark, want := range marks {
		if says, number := impl.MarkOf(mark); says != want[0] || number != want[1] {
			t.Errorf("MarkOf(%q) = %d, %d", mark, says, number)
		}
	}
}

func someHeading() impl.Heading {
	return impl.Heading{Kind: "SM", Area: "DL", No: 1, Centre: "AMMC", Day: 15, Hour: 6, Minute: 0, Mark: "CCB"}
}

// changedHeadings has a right heading with one field changed in turn.
func changedHeadings() (right, wrong []impl.Heading) {
	change := func(list *[]impl.Heading, by func(h *impl.Heading)) {
		h := someHeading()
		by(&h)
		*list = append(*list, h)
	}
	for _, s := range []string{"AA", "ZZ", "AZ", "SM"} {
		change(&right, func(h *impl.Heading) { h.Kind = s })
		change(&right, func(h *impl.Heading) { h.Area = s })
	}
	for _, s := range []string{"", "S", "SMD", "sM", "Sm", "S1", "S ", " M", "@A", "A[", "Ä", "S\x00", "\xffM"} {
		change(&wrong, func(h *impl.Heading) { h.Kind = s })
		change(&wrong, func(h *impl.Heading) { h.Area = s })
	}
	for _, s := range []string{"AAAA", "ZZZZ", "A000", "Z999", "A1B2"} {
		change(&right, func(h *impl.Heading) { h.Centre = s })
	}
	for _, s := range []string{"", "AMM", "AMMCA", "1MMC", "aMMC", "AMMc", "AM C", "A/MC", "A:MC", "A@MC", "A[MC", "ÄMC", "AMC\xff", "0000"} {
		change(&wrong, func(h *impl.Heading) { h.Centre = s })
	}
	for mark := range rightMarks() {
		change(&right, func(h *impl.Heading) { h.Mark = mark })
	}
	for _, mark := range []string{"RRY", "RR@", "CCY", "AAY", "PA[", "P@A", "XXA", " ", "CCB ", "ccb"} {
		change(&wrong, func(h *impl.Heading) { h.Mark = mark })
	}
	numbers := func(least, most int64, field func(h *impl.Heading) *int64) {
		for n := least; n <= most; n++ {
			change(&right, func(h *impl.Heading) { *field(h) = n })
		}
		for _, n := range []int64{least - 1, most + 1, 100, -100, math.MaxInt64, math.MinInt64} {
			change(&wrong, func(h *impl.Heading) { *field(h) = n })
		}
	}
	numbers(0, 99, func(h *impl.Heading) *int64 { return &h.No })
	numbers(1, 31, func(h *impl.Heading) *int64 { return &h.Day })
	numbers(0, 23, func(h *impl.Heading) *int64 { return &h.Hour })
	numbers(0, 59, func(h *impl.Heading) *int64 { return &h.Minute })
	return right, wrong
}

func headingBySteps(h impl.Heading) string {
	two := func(n int64) string { return strconv.FormatInt(100+n, 10)[1:] }
	text := h.Kind + h.Area + two(h.No) + " " + h.Centre + " " + two(h.Day) + two(h.Hour) + two(h.Minute)
	if h.Mark != "" {
		text += " " + h.Mark
	}
	return text
}

// Promise 4: a heading is read back from its text.
func TestHeadingsComeBack(t *testing.T) {
	right, wrong := changedHeadings()
	for _, h := range right {
		text, ok := impl.HeadingText(h)
		if text != headingBySteps(h) || !ok {
			t.Fatalf("HeadingText(%v) = %q, %v", h, text, ok)
		}
		if back, code := impl.ReadHeading(text); back != h || code != 0 {
			t.Fatalf("ReadHeading(%q) = %v, %d", text, back, code)
		}
	}
	for _, h := range append(wrong, impl.Heading{}) {
		if text, ok := impl.HeadingText(h); text != "" || ok {
			t.Errorf("HeadingText(%v) = %q, %v", h, text, ok)
		}
	}
}

func TestReadHeadingCodes(t *testing.T) {
	lines := map[string]int64{}
	add := func(code int64, list ...string) {
		for _, line := range list {
			lines[line] = code
		}
	}
	add(impl.HForm, "", " ", "   ", "SMDL01", "SMDL01 AMMC", "SMDL01 AMMC ", " AMMC 150600", "SMDL01  150600", "SMDL01  AMMC 150600", " SMDL01 AMMC 150600", "SMDL01 AMMC 150600 ", "SMDL01 AMMC 150600 CCB ", "SMDL01 AMMC 150600 CCB X", "SMDL01 AMMC 150600  CCB", "SMDL01 AMMC  CCB", "a b", "a b c d e", strings.Repeat(" ", 99999), strings.Repeat("a ", 50000))
	add(impl.HKind, "SMDL1 AMMC 150600", "SMDL001 AMMC 150600", "SMD101 AMMC 150600", "1MDL01 AMMC 150600", "SmDL01 AMMC 150600", "SMDLA1 AMMC 150600", "SMDL1A AMMC 150600", "SMDL-1 AMMC 150600", "SMDL+1 AMMC 150600", "\tSMDL01 AMMC 150600", "SMÄ01 AMMC 150600", "a b c", "a b c d", "\n\n\n AMMC 150600", "SMDL\xff1 AMMC 150600")
	add(impl.HCentre, "SMDL01 1MMC 150600", "SMDL01 AMM 150600", "SMDL01 AMMCC 150600", "SMDL01 aMMC 150600", "SMDL01 AMmC 150600", "SMDL01 AM-C 150600", "SMDL01 b c", "SMDL01 b c d", "SMDL01 AMC\xff 150600", "SMDL01 \tMMC 150600")
	add(impl.HTime, "SMDL01 AMMC 15060", "SMDL01 AMMC 1506000", "SMDL01 AMMC 000600", "SMDL01 AMMC 320600", "SMDL01 AMMC 152400", "SMDL01 AMMC 150660", "SMDL01 AMMC 15060A", "SMDL01 AMMC 15O600", "SMDL01 AMMC -10600", "SMDL01 AMMC +10600", "SMDL01 AMMC 15-100", "SMDL01 AMMC 1506-1", "SMDL01 AMMC c", "SMDL01 AMMC c d", "SMDL01 AMMC 15060Z", "SMDL01 AMMC 990600 CCB", "SMDL01 AMMC 15060\n")
	add(impl.HMark, "SMDL01 AMMC 150600 CCY", "SMDL01 AMMC 150600 CC", "SMDL01 AMMC 150600 CCBB", "SMDL01 AMMC 150600 RCA", "SMDL01 AMMC 150600 PA", "SMDL01 AMMC 150600 ccb", "SMDL01 AMMC 150600 CCB\n", "SMDL01 AMMC 150600 \t", "SMDL01 AMMC 150600 \xff")
	for line, want := range lines {
		if h, code := impl.ReadHeading(line); h != (impl.Heading{}) || code != want {
			t.Errorf("ReadHeading(%.40q) = %v, %d and not %d", line, h, code, want)
		}
	}
	for i, code := range []int64{impl.HForm, impl.HKind, impl.HCentre, impl.HTime, impl.HMark} {
		if code != int64(i+1) {
			t.Errorf("code %d is %d", i+1, code)
		}
	}
}

// Promise 4: no other text is read. Each line that differs from a right one by a byte is read only if it is the text of what was read.
func TestNoOtherHeadingIsRead(t *testing.T) {
	for _, line := range []string{"SMDL01 AMMC 150600", "FTUK31 EGRR 312359 PZZ", "AAXX00 A000 010000 AAX"} {
		for i := range len(line) + 1 {
			for b := range 256 {
				heading(t, line[:i]+string([]byte{byte(b)})+line[i:])
				if i < len(line) {
					heading(t, line[:i]+string([]byte{byte(b)})+line[i+1:])
					heading(t, line[:i]+line[i+1:])
				}
			}
		}
	}
}

func heading(t *testing.T, line string) {
	t.Helper()
	h, code := impl.ReadHeading(line)
	text, ok := impl.HeadingText(h)
	if code == 0 && (!ok || text != line) || code != 0 && h != (impl.Heading{}) {
		t.Errorf("ReadHeading(%q) = %v, %d", line, h, code)
	}
}
