package tests

import (
	"fmt"
	"maps"
	"regexp"
	"slices"
	"strconv"
	"strings"
	"testing"

	"loop.example/g00051/impl"
)

const serviceClock = 14130000 // 2026-11-12T12:00Z

// talks takes lines by turns with what is said to each, lines of that being parted by line feeds, and nothing for a line that says nothing.
func talks(t *testing.T, turns ...string) {
	t.Helper()
	var script, want strings.Builder
	for i := 0; i < len(turns); i += 2 {
		script.WriteString(turns[i] + "\n")
		if turns[i+1] != "" {
			want.WriteString(turns[i+1] + "\n")
		}
	}
	got := impl.Serve(script.String())
	gotLines, wantLines := strings.Split(got, "\n"), strings.Split(want.String(), "\n")
	for i, line := range wantLines {
		if i >= len(gotLines) || gotLines[i] != line {
			t.Errorf("line %d that is said to %.300q: %.300q and not %q", i+1, script.String(), gotLines[min(i, len(gotLines)-1)], line)
			return
		}
	}
	if got != want.String() {
		t.Errorf("to %.300q is said %.300q and not %.300q", script.String(), got, want.String())
	}
	servesBySteps(t, script.String())
}

// saidToEach has the same said to each of some lines.
func saidToEach(said string, lines ...string) []string {
	var turns []string
	for _, line := range lines {
		turns = append(turns, line, said)
	}
	return turns
}

func TestServiceNumbers(t *testing.T) {
	if impl.MaxScript != 60 || impl.MaxSpots != 30 || impl.MaxText != 20000 || impl.MaxReads != 300 {
		t.Error(impl.MaxScript, impl.MaxSpots, impl.MaxText, impl.MaxReads)
	}
}

func TestScriptsAsAWhole(t *testing.T) {
	for script, want := range map[string]string{
		"": "", "\n": "", " \n": "", "   \n\n  \n": "", strings.Repeat("\n", 60): "", strings.Repeat("\n", 61): "too long\n", strings.Repeat(" \n", 61): "too long\n", strings.Repeat("judge\n", 60): strings.Repeat("nothing\n", 60), strings.Repeat("judge\n", 61): "too long\n", strings.Repeat("\n", 59) + "judge\n": "nothing\n", strings.Repeat("\n", 60) + "judge\n": "too long\n", strings.Repeat("judge\n", 60) + "judge": "too long\n", strings.Repeat("judge\n", 59) + "judge": "too long\n", strings.Repeat("judge\n", 60) + " ": "too long\n",
		"judge": "too long\n", " ": "too long\n", "judge\n ": "too long\n", "judge\njudge": "too long\n", "station 1 0 0\njudge": "too long\n", "x": "too long\n", "\njudge": "too long\n", "judge\n\r": "too long\n", "judge\r": "too long\n", "\x00": "too long\n",
		"judge\n": "nothing\n", "judge\n\n": "nothing\n", "\njudge\n": "nothing\n", "judge\n\njudge\n": "nothing\nnothing\n", "  judge\n": "nothing\n", "judge   \n": "nothing\n", "   judge   \n": "nothing\n", " judge \n \n": "nothing\n",
		"\tjudge\n": "what\n", "judge\t\n": "what\n", "\t\n": "what\n", "judge\r\n": "what\n", "\r\n": "what\n", "judge\vjudge\n": "what\n", "\u00a0\n": "what\n", "\u00a0judge\n": "what\n", "\x00\n": "what\n", "\xff\n": "what\n", "judge \xff\n": "what\n", "station\t1 0 0\n": "what\n", "station 1\t0 0\n": "what\n", "station 1 0 0\t\n": "what\n", "tick 1\t\n": "what\n",
		"what\n": "what\n", "Judge\n": "what\n", "JUDGE\n": "what\n", "judges\n": "what\n", "judg\n": "what\n", "judge judge\n": "what\n", "too long\n": "what\n", "1\n": "what\n", "-\n": "what\n", "help\n": "what\n", ".\n": "what\n", "sky sky\n": "what\n",
	} {
		if got := impl.Serve(script); got != want {
			t.Errorf("to %.100q is said %.100q and not %.100q", script, got, want)
		}
		servesBySteps(t, script)
	}
}

func TestLongScripts(t *testing.T) {
	for _, c := range []struct {
		script, want string
	}{
		{"judge" + strings.Repeat(" ", 19994) + "\n", "nothing\n"}, {strings.Repeat(" ", 19994) + "judge\n", "nothing\n"}, {strings.Repeat("x", 19999) + "\n", "what\n"}, {strings.Repeat(" ", 19999) + "\n", ""}, {"report " + strings.Repeat("x", 19992) + "\n", "bad 1\n"}, {"get " + strings.Repeat("x", 19995) + "\n", "bad 1\n"}, {"get step=" + strings.Repeat("1", 19990) + "\n", "bad 2\n"}, {"taf " + strings.Repeat("x ", 9997) + "\n\n", "no\n"}, {"tick " + strings.Repeat("0", 19993) + "1\n", "what\n"}, {strings.Repeat("é", 9999) + "x\n", "what\n"},
	} {
		if len(c.script) != 20000 {
			t.Fatal(len(c.script))
		}
		if got := impl.Serve(c.script); got != c.want {
			t.Errorf("to %.40q is said %.100q and not %q", c.script, got, c.want)
		}
		for _, longer := range []string{" " + c.script, strings.Replace(c.script, "\n", " \n", 1), c.script + "\n", c.script + c.script, strings.Repeat(c.script, 50)} {
			if got := impl.Serve(longer); got != "too long\n" {
				t.Errorf("to %d bytes is said %.100q", len(longer), got)
			}
		}
	}
	for _, script := range []string{strings.Repeat("x", 20001), strings.Repeat(" ", 20001), strings.Repeat("\n", 20001), strings.Repeat("\n", 20000), strings.Repeat("judge\n", 3333), strings.Repeat("a b\n", 100000)} {
		if got := impl.Serve(script); got != "too long\n" {
			t.Errorf("to %d bytes is said %.100q", len(script), got)
		}
	}
}

func TestStationLines(t *testing.T) {
	talks(t, slices.Concat([]string{
		"station 1 0 0", "station 1", "station 99999 1000000 1000000", "station 99999", "station 1 5 5", "twice", "station 99999 1000000 1000000", "twice", "station 000000002 000000003 001000000", "station 2", "station 2 9 9", "twice", "station 00000001 0 0", "twice", "   station    7   1  1  ", "station 7",
	}, saidToEach("what", "station", "station 3", "station 3 1", "station 3 1 1 1", "station 3 1 1 x", "station 0 1 1", "station 000000000 1 1", "station 100000 1 1", "station 999999999 1 1", "station 3 1000001 1", "station 3 1 1000001", "station 3 999999999 1", "station 0000000003 1 1", "station 3 0000000001 1", "station 3 1 0000000001", "station 1234567890 1 1"),
		saidToEach("what", "station -3 1 1", "station +3 1 1", "station 3 -1 1", "station 3 1 -1", "station 3 1 +1", "station x 1 1", "station 3 x 1", "station 3 1 y", "station 3. 1 1", "station 3 1.0 1", "station 3 0x1 1", "station 3 1e1 1", "station 3 1_0 1", "station 3,1,1", "station \uff13 1 1", "station 3 \u0661 1", "Station 3 1 1", "STATION 3 1 1", "stations 3 1 1", "3 1 1"),
		// None of these is there.
		[]string{"station 3 1 1", "station 3", "report 00004=", "none", "station 4 1 1", "station 4", "report 00004=", "report 4"})...)
}

func TestFullStations(t *testing.T) {
	var turns []string
	for i := range 30 {
		turns = append(turns, fmt.Sprintf("station %d %d %d", 100-i, i, 2*i), fmt.Sprintf("station %d", 100-i))
	}
	talks(t, append(turns, "station 7 1 1", "full", "station 71 1 1", "twice", "station 100 1 1", "twice", "station 0 1 1", "what", "station 7 1", "what", "station 7 1000001 1", "what", "report 00007=", "none", "report 00071=", "report 71", "report 00100=", "report 100", "judge", "71 2026-11-12T12:00Z / 1\n100 2026-11-12T12:00Z / 1")...)
	talks(t, append(turns[:58], "station 7 1 1", "station 7", "station 8 1 1", "full")...)
}

func TestReportLines(t *testing.T) {
	here := []string{"station 2501 10 10", "station 2501", "station 1 12 10", "station 1"}
	words := func(count int) string { return "report 00001" + strings.Repeat(" 10021", count-2) + " 20021=" }
	faults := ""
	for at := 2; at < 99; at++ {
		faults += fmt.Sprintf(" %d:4", at)
	}
	talks(t, slices.Concat(here, []string{
		"report 02501 11052 42308 60012=", "report 2501", "report 00001=", "report 1", "report 00001 =", "report 1", "report    00001    10021   =   ", "report 1", "report 00001 10021 2x=", "report 1 2:2", "report 00001 1O021=", "report 1 1:1", "report 00001 1O02x 2l021 x 11234 30132 80000 4////=", "report 1 1:1 1:5 2:1 3:2 4:4 6:3", "report 00001 47099=", "report 1 1:6", "report 00001 oIoIo=", "report 1 1:1 1:3",
		"report", "what", "report ", "what", "report x", "bad 1", "report 00001", "bad 1", "report 00001 10021", "bad 1", "report 00001 10021 = x", "bad 1", "report =", "bad 2", "report   =  ", "bad 2", "report 1=", "bad 3", "report 00000=", "bad 3", "report 0000l=", "bad 3", "report x=", "bad 3", "report 000001=", "bad 3", "report 00001 ==", "report 1 1:2", "report 00001==", "bad 3", "report 00002=", "none", "report 99999=", "none", "report 00002 1O021 x=", "none", "report 02502 11052=", "none", "Report 00001=", "what", "report\t00001=", "what",
		words(100), "report 1" + faults, words(101), "bad 2", words(102), "bad 2", "report 00001\t10021=", "bad 3", "report 00001 1002\t=", "report 1 1:5",
	})...)
	talks(t, "report 00001=", "none", "station 1 0 0", "station 1", "report 00001=", "report 1", "report 00001=", "report 1")
}

func TestTickLines(t *testing.T) {
	talks(t, slices.Concat([]string{"tick 1", "at 2026-11-12T12:01Z", "tick 1440", "at 2026-11-13T12:01Z", "tick 59", "at 2026-11-13T13:00Z", "tick 000000060", "at 2026-11-13T14:00Z", "tick 600", "at 2026-11-14T00:00Z"},
		saidToEach("what", "tick", "tick 0", "tick 000", "tick 1441", "tick 999999999", "tick 1000000000", "tick 0000000001", "tick -1", "tick +1", "tick 1.5", "tick x", "tick 1 1", "tick 1 x", "Tick 1", "tick1", "ticks 1", "tick 1h"),
		[]string{"tick 1", "at 2026-11-14T00:01Z"})...)
	var turns []string
	for day := 1; day <= 60; day++ {
		turns = append(turns, "tick 1440", "at "+calendar(serviceClock+1440*int64(day)).Format("2006-01-02T15:04Z"))
	}
	talks(t, turns...)
}

func TestJudgeLines(t *testing.T) {
	const at, later = " 2026-11-12T12:00Z ", " 2026-11-12T13:00Z "
	talks(t, "judge", "nothing", "station 5 0 0", "station 5", "judge", "nothing", "report 00005 10105=", "report 5", "judge", "5"+at+"10.5 0", "judge x", "what", "judge 1", "what", "judge", "5"+at+"10.5 0", "report 00005 20105=", "report 5", "judge", "5"+at+"10.5 2\n5"+at+"/ 3")
	// Rising by station, whatever the order; of the same one just once; -0.1 and 0.0 with their places.
	talks(t, "station 9 0 0", "station 9", "station 10 900 900", "station 10", "station 2 500 0", "station 2", "report 00010 11001=", "report 10", "report 00009 10000=", "report 9", "report 00002 10150=", "report 2", "report 00009 10000=", "report 9", "judge", "2"+at+"15.0 0\n9"+at+"0.0 0\n10"+at+"-0.1 0")
	// Low and High, Guess and Off.
	talks(t, "station 1 0 0", "station 1", "station 2 1000 0", "station 2", "station 3 2000 0", "station 3", "station 4 3000 0", "station 4", "station 5 4000 0", "station 5", "station 6 5000 0", "station 6", "station 7 6000 0", "station 7", "station 8 7000 0", "station 8",
		"report 00001 11600=", "report 1", "report 00002 11601=", "report 2", "report 00003 10500=", "report 3", "report 00004 10501=", "report 4", "report 00005 10400=", "report 5", "report 00006 10401=", "report 6", "report 00007 11200=", "report 7", "report 00008 11201=", "report 8",
		"judge", "1"+at+"-60.0 32\n2"+at+"-60.1 36\n3"+at+"50.0 32\n4"+at+"50.1 36\n5"+at+"40.0 0\n6"+at+"40.1 32\n7"+at+"-20.0 0\n8"+at+"-20.1 32")
	// Rate: 10 in an hour, and one more.
	talks(t, "station 1 0 0", "station 1", "station 2 1000 0", "station 2", "report 00001 10100=", "report 1", "report 00002 10100=", "report 2", "tick 60", "at 2026-11-12T13:00Z", "report 00001 10200=", "report 1", "report 00002 10201=", "report 2", "tick 1", "at 2026-11-12T13:01Z", "report 00001 10202=", "report 1",
		"judge", "1"+at+"10.0 0\n1"+later+"20.0 0\n1 2026-11-12T13:01Z 20.2 8\n2"+at+"10.0 0\n2"+later+"20.1 8")
	// Buddies: at most 50 away, two of them, by more than 8.
	three := func(x, y int64, temp, said string) {
		t.Helper()
		talks(t, "station 1 100 100", "station 1", "station 2 130 140", "station 2", fmt.Sprintf("station 3 %d %d", 100-x, 100-y), "station 3", "report 00001 "+temp+"=", "report 1", "report 00002 10100=", "report 2", "report 00003 10100=", "report 3", "judge", "1"+at+said+"\n2"+at+"10.0 0\n3"+at+"10.0 0")
	}
	three(50, 0, "10180", "18.0 0")
	three(50, 0, "10181", "18.1 16")
	three(0, 50, "10019", "1.9 16")
	three(0, 50, "10020", "2.0 0")
	three(51, 0, "10300", "30.0 0")
	three(50, 1, "10300", "30.0 0")
	three(40, 30, "10420", "42.0 48")
}

// The eighths of all directions, each of three or more.
func TestTextLines(t *testing.T) {
	eighths := []string{"", "north", "north", "north-east", "north-east", "north-east", "north-east", "east", "east", "east", "east", "east", "south-east", "south-east", "south-east", "south-east", "south", "south", "south", "south", "south", "south-west", "south-west", "south-west", "south-west", "west", "west", "west", "west", "west", "north-west", "north-west", "north-west", "north-west", "north", "north", "north"}
	for from := 1; from <= 36; from += 12 {
		turns := []string{"station 1 0 0", "station 1"}
		for dir := from; dir < from+12; dir++ {
			turns = append(turns, fmt.Sprintf("report 00001 4%02d10=", dir), "report 1", "text 1", eighths[dir]+" 5. dry.")
		}
		talks(t, turns...)
	}
	forces := map[int]int64{1: 1, 2: 2, 3: 2, 4: 3, 5: 3, 6: 4, 7: 4, 8: 5, 10: 5, 11: 6, 13: 6, 14: 7, 17: 7, 18: 8, 20: 8, 21: 9, 24: 9, 25: 10, 28: 10, 29: 11, 32: 11, 33: 12, 99: 12}
	turns := []string{"station 1 0 0", "station 1"}
	for _, speed := range slices.Sorted(maps.Keys(forces)) {
		turns = append(turns, fmt.Sprintf("report 00001 418%02d=", speed), "report 1", "text 2", fmt.Sprintf("Süd Stärke %d. trocken.", forces[speed]))
	}
	talks(t, turns...)
	talks(t, slices.Concat([]string{"text 1", "none", "text 4", "what", "station 1 0 0", "station 1", "text 3", "none", "report 00001 40000=", "report 1", "text 1", "calm. dry.", "text 2", "windstill. trocken.", "text 3", "cisza. sucho.", "text 000000003", "cisza. sucho."},
		saidToEach("what", "text", "text 0", "text 4", "text 999999999", "text 0000000001", "text -1", "text x", "text 1 1", "text 1 2", "texts 1", "Text 1"),
		[]string{"report 00001 10021=", "report 1", "text 1", "none", "text 4", "what", "report 00001 4////=", "report 1", "text 2", "none", "report 00001 40500 =", "report 1 1:6", "text 3", "none", "report 00001 40501=", "report 1", "text 3", "wiatr północno-wschodni, siła 1. sucho."})...)
	// Rain and snow, and where.
	talks(t, "station 1 0 0", "station 1", "station 2 0 0", "station 2", "station 3 0 0", "station 3",
		"report 00001 10000 40501 60001=", "report 1", "text 1", "north-east 1. rain in 1 place.", "report 00001 11001 40501 60001=", "report 1", "text 1", "north-east 1. snow in 1 place.", "report 00001 40501 60001=", "report 1", "text 1", "north-east 1. rain in 1 place.", "report 00001 1//// 40501 60001=", "report 1", "text 1", "north-east 1. rain in 1 place.",
		"report 00002 11010 69999=", "report 2", "text 1", "none", "report 00001 40501 60001=", "report 1", "text 1", "north-east 1. rain in 2 places.", "report 00003 11001 40000 60012=", "report 3", "text 2", "windstill. Schnee an 3 Orten.", "text 3", "cisza. śnieg w 3 miejscach.",
		// A dry one says nothing of the others.
		"report 00002 11001 40501 60000=", "report 2", "text 1", "north-east 1. dry.", "report 00003 11001 40501 60001=", "report 3", "text 1", "north-east 1. snow in 2 places.", "report 00002 40501=", "report 2", "text 1", "north-east 1. dry.", "report 00002 40501 6////=", "report 2", "text 1", "north-east 1. dry.", "report 00003 40501 60001=", "report 3", "text 1", "north-east 1. rain in 2 places.", "report 00001 10021=", "report 1", "report 00003 40501 60001=", "report 3", "text 1", "north-east 1. rain in 1 place.",
		// What is refused is no report.
		"report 00002 60001", "bad 1", "report 00004 40000=", "none", "text 1", "north-east 1. rain in 1 place.")
}

func TestWarnLines(t *testing.T) {
	talks(t, slices.Concat([]string{"warn 1 1 1 0 0 1 1 1", "warn 1 1", "warn 1000000 1000000 5 0 0 1000000 1000000 38466000", "warn 1000000 1000000", "warn 000000002 000000003 000000004 0 0 0 0 000000005", "warn 2 3", "warn 3 1 1 1000000 1000000 0 0 1", "warn 3 1"},
		saidToEach("refused 2", "warn 0 1 1 0 0 1 1 1", "warn 1000001 1 1 0 0 1 1 1", "warn 999999999 1 1 0 0 1 1 1", "warn 9 0 1 0 0 1 1 1", "warn 9 1000001 1 0 0 1 1 1", "warn 9 1 0 0 0 1 1 1", "warn 9 1 6 0 0 1 1 1", "warn 9 1 1 1000001 0 0 1 1", "warn 9 1 1 0 1000001 1 0 1", "warn 9 1 1 1 0 1000000 1 1", "warn 9 1 1 0 1 1 1000000 1", "warn 9 1 1 999999999 999999999 999999999 999999999 1", "warn 9 1 1 0 0 1 1 0", "warn 9 1 1 0 0 1 1 38466001", "warn 9 1 1 0 0 1 1 999999999", "warn 1 1 6 0 0 1 1 1", "warn 0 0 0 0 0 0 0 0"),
		saidToEach("refused 3", "warn 1 1 1 0 0 1 1 1", "warn 1 1 5 7 7 1 1 9", "warn 1000000 999999 1 0 0 1 1 1", "warn 2 2 1 0 0 1 1 1", "warn 2 3 1 0 0 1 1 1"),
		saidToEach("what", "warn", "warn 9", "warn 9 1 1 0 0 1 1", "warn 9 1 1 0 0 1 1 1 1", "warn 9 1 1 0 0 1 1 x", "warn x 1 1 0 0 1 1 1", "warn 9 1 1 -1 0 1 1 1", "warn 9 1 1 0 -1 1 1 1", "warn 9 1 1 0 0 -1 1 1", "warn 9 1 1 0 0 1 1 -1", "warn 9 1 1 0 0 1 1 1.5", "warn 0000000009 1 1 0 0 1 1 1", "warn 9 1 1 0 0 1 1 1000000000", "warn 9 1 +1 0 0 1 1 1", "Warn 9 1 1 0 0 1 1 1", "warning 9 1 1 0 0 1 1 1"),
		[]string{"end 9 2", "none", "warn 9 1 1 0 0 1 1 1", "warn 9 1", "warn 1 2 1 0 0 1 1 1", "warn 1 2"})...)
	turns := []string{}
	for i := range 40 {
		turns = append(turns, fmt.Sprintf("warn %d 5 1 0 0 1 1 1", 100-i), fmt.Sprintf("warn %d 5", 100-i))
	}
	talks(t, append(turns, "warn 7 1 1 0 0 1 1 1", "refused 4", "warn 7 1 6 0 0 1 1 1", "refused 2", "warn 80 5 1 0 0 1 1 1", "refused 3", "warn 80 6 1 0 0 1 1 1", "warn 80 6", "end 81 6", "end 81 6", "end 7 2", "none", "warn 7 1 1 0 0 1 1 1", "refused 4", "end 81 5", "refused 3")...)
	talks(t, append(turns[:78], "warn 7 1 1 0 0 1 1 1", "warn 7 1", "warn 8 1 1 0 0 1 1 1", "refused 4")...)
}

func TestEndLines(t *testing.T) {
	talks(t, slices.Concat([]string{"end 4 1", "none", "warn 4 3 2 0 0 20 20 90", "warn 4 3", "end 4 2", "refused 3", "end 4 3", "refused 3", "end 4 0", "refused 2", "end 4 1000001", "refused 2", "end 5 4", "none", "end 0 4", "none", "end 3 0", "none", "end 4 4", "end 4 4", "end 4 4", "refused 3", "end 4 5", "end 4 5", "end 000000004 000000006", "end 4 6", "warn 4 6 2 0 0 20 20 90", "refused 3", "warn 4 7 2 0 0 20 20 90", "warn 4 7", "end 4 1000000", "end 4 1000000", "warn 4 1000000 2 0 0 20 20 90", "refused 3", "warn 4 1000001 2 0 0 20 20 90", "refused 2"},
		saidToEach("what", "end", "end 4", "end 4 8 1", "end x 8", "end 4 x", "end -4 8", "end 4 -8", "end 0000000004 8", "end 4 0000000008", "End 4 8", "ends 4 8"))...)
}

func TestNotifyLines(t *testing.T) {
	// In the order in which the stations came, of one by the Id; each state once, the last one too.
	talks(t, "notify", "quiet", "station 7 5 5", "station 7", "station 3 15 5", "station 3", "notify", "quiet", "warn 9 1 2 0 0 20 10 90", "warn 9 1", "warn 4 1 5 0 0 10 10 60", "warn 4 1", "notify", "7 warned 4 1 5\n7 warned 9 1 2\n3 warned 9 1 2", "notify", "quiet", "notify x", "what", "notify 1", "what", "tick 59", "at 2026-11-12T12:59Z", "notify", "quiet", "tick 1", "at 2026-11-12T13:00Z", "notify", "7 warned 4 1 0", "notify", "quiet",
		"warn 9 2 2 0 0 10 10 30", "warn 9 2", "notify", "7 warned 9 2 2\n3 warned 9 2 0", "warn 9 2 3 0 0 10 10 30", "refused 3", "notify", "quiet", "end 9 3", "end 9 3", "notify", "7 warned 9 3 0", "notify", "quiet", "warn 9 4 1 0 0 10 10 30", "warn 9 4", "end 9 5", "end 9 5", "notify", "quiet", "warn 9 6 1 0 0 10 10 30", "warn 9 6", "tick 30", "at 2026-11-12T13:30Z", "notify", "quiet", "warn 4 2 3 0 0 20 20 1", "warn 4 2", "notify", "7 warned 4 2 3\n3 warned 4 2 3")
	// A station that comes later is told what holds; the area has its lower and left sides, not the others.
	talks(t, "warn 1 1 1 10 20 5 7 60", "warn 1 1", "notify", "quiet", "station 1 10 20", "station 1", "station 2 14 26", "station 2", "station 3 15 20", "station 3", "station 4 10 27", "station 4", "station 5 9 20", "station 5", "station 6 10 19", "station 6", "station 8 12 23", "station 8", "notify", "1 warned 1 1 1\n2 warned 1 1 1\n8 warned 1 1 1", "station 9 11 21", "station 9", "station 9 0 0", "twice", "notify", "9 warned 1 1 1", "notify", "quiet", "end 1 2", "end 1 2", "notify", "1 warned 1 2 0\n2 warned 1 2 0\n8 warned 1 2 0\n9 warned 1 2 0")
	// From the clock on, not from its beginning; two stations at one spot.
	talks(t, "tick 60", "at 2026-11-12T13:00Z", "station 1 5 5", "station 1", "station 2 5 5", "station 2", "warn 1 1 1 0 0 10 10 60", "warn 1 1", "tick 59", "at 2026-11-12T13:59Z", "notify", "1 warned 1 1 1\n2 warned 1 1 1", "tick 1", "at 2026-11-12T14:00Z", "notify", "1 warned 1 1 0\n2 warned 1 1 0", "warn 2 1 1 0 0 10 10 60", "warn 2 1", "tick 60", "at 2026-11-12T15:00Z", "notify", "quiet", "end 1 2", "end 1 2", "notify", "quiet")
	// What is as wide or as high as nothing holds nobody.
	talks(t, "station 1 5 5", "station 1", "warn 1 1 1 5 0 0 10 60", "warn 1 1", "warn 2 1 1 0 5 10 0 60", "warn 2 1", "notify", "quiet", "warn 3 1 1 5 5 1 1 60", "warn 3 1", "notify", "1 warned 3 1 1")
	// As many places and warnings as may be.
	var turns []string
	for i := range 30 {
		turns = append(turns, fmt.Sprintf("station %d 5 5", i+1), fmt.Sprintf("station %d", i+1))
	}
	said := ""
	for i := range 28 {
		turns = append(turns, fmt.Sprintf("warn %d 1 1 0 0 10 10 60", i+1), fmt.Sprintf("warn %d 1", i+1))
	}
	for place := range 30 {
		for id := range 28 {
			said += fmt.Sprintf("%d warned %d 1 1\n", place+1, id+1)
		}
	}
	talks(t, append(turns, "notify", strings.TrimSuffix(said, "\n"), "notify", "quiet")...)
}

func TestTafAndSkyLines(t *testing.T) {
	const text, sky = "AMMC 121210Z 1213/1222 24015KT 9999 NSW BKN012 TEMPO 1213/1215 3000=", "24015KT 9999 NSW BKN012"
	talks(t, slices.Concat([]string{"sky", "none", "taf " + text, "taf AMMC 3000", "sky", "none", "tick 59", "at 2026-11-12T12:59Z", "sky", "none", "tick 1", "at 2026-11-12T13:00Z", "sky", sky + " or 24015KT 3000 NSW BKN012", "tick 120", "at 2026-11-12T15:00Z", "sky", sky, "tick 419", "at 2026-11-12T21:59Z", "sky", sky},
		saidToEach("no", "taf x", "taf =", "taf "+strings.TrimSuffix(text, "="), "taf "+text+" x", "taf TAF "+text, "taf AMM 121210Z 1213/1222 24015KT 9999 NSW BKN012=", "taf AMMC 121210 1213/1222 24015KT 9999 NSW BKN012=", "taf AMMC 121210Z 1213/1222 24015KT 9999 NSW="),
		saidToEach("what", "taf", "taf ", "Taf "+text, "sky x", "sky 1", "Sky", "skies"),
		[]string{"sky", sky, "tick 1", "at 2026-11-12T22:00Z", "sky", "none"})...)
	// A later one stands in the place of the one ahead, with any number of blanks.
	talks(t, "taf   EDDF  121100Z  1212/1312   00000KT  0500 FG   OVC001   PROB30 1212/1214 0100   BECMG 1212/1214 9999 NSW SKC= ", "taf EDDF 100", "sky", "00000KT 0500 FG OVC001 or 00000KT 0100 FG OVC001 or 00000KT 9999 NSW SKC", "tick 120", "at 2026-11-12T14:00Z", "sky", "00000KT 9999 NSW SKC", "taf "+text, "taf AMMC 3000", "sky", sky+" or 24015KT 3000 NSW BKN012", "taf x", "no", "sky", sky+" or 24015KT 3000 NSW BKN012")
	// Near the clock: the 1st is that of the next month, the 30th that of the last.
	talks(t, "taf AMMC 010000Z 0100/0124 24015KT 9999 NSW BKN012=", "taf AMMC 9999", "sky", "none", "taf AMMC 302300Z 3023/3101 24015KT 9999 NSW BKN012=", "taf AMMC 9999", "taf AMMC 302300Z 3023/3024 24015KT 9999 NSW BKN012=", "taf AMMC 9999", "taf AMMC 312300Z 3123/3124 VRB02KT 0000 FG OVC001=", "taf AMMC 0", "taf AMMC 322300Z 3123/3124 24015KT 9999 NSW BKN012=", "no", "sky", "none")
}

func TestStoreAndGetLines(t *testing.T) {
	const at, later = " 2026-11-12T12:00Z ", " 2026-11-12T12:01Z "
	talks(t, slices.Concat([]string{"get param=t", "nothing", "store t 6 500 77", "stored 1", "store t 6 500 78", "stored 1", "store abcd 0 0 0", "stored 2", "store zzzz 360 1100 999999999", "stored 3", "store to 000000001 000000002 000000003", "stored 4", "get param=t", "t" + at + "6 500 78", "get param=to", "to" + at + "1 2 3", "get step=0/6/360", "abcd" + at + "0 0 0\nt" + at + "6 500 78\nzzzz" + at + "360 1100 999999999"},
		saidToEach("no", "store T 6 500 77", "store abcde 6 500 77", "store t1 6 500 77", "store ` 6 500 77", "store { 6 500 77", "store 1 6 500 77", "store - 6 500 77", "store \xff 6 500 77", "store t 361 500 77", "store t 999999999 500 77", "store t 6 1101 77", "store T 361 1101 77"),
		saidToEach("what", "store", "store t", "store t 6 500", "store t 6 500 77 1", "store t x 500 77", "store t 6 x 77", "store t 6 500 x", "store t -1 500 77", "store t 6 -1 77", "store t 6 500 -1", "store t 6 500 1000000000", "store t 0000000006 500 77", "store t 6 500 7.5", "store T x 500 77", "Store t 6 500 77", "store 6 500 77"),
		[]string{"store u 6 500 77", "stored 5", "tick 1", "at 2026-11-12T12:01Z", "store t 6 500 5", "stored 6", "get level=500", "t" + at + "6 500 78\nt" + later + "6 500 5\nu" + at + "6 500 77", "get time=2026-11-12T12:01Z,param=t/u", "t" + later + "6 500 5", "get step=6,level=500,param=u", "u" + at + "6 500 77", "get param=to/by", "to" + at + "1 2 3"})...)
	talks(t, slices.Concat([]string{"store t 6 500 77", "stored 1"},
		saidToEach("what", "get", "get param=t x", "get param=t 1", "get param=t ,step=6", "Get param=t"), saidToEach("nothing", "get param=u", "get step=5", "get level=1100", "get time=2000-01-01T00:00Z", "get param=t,level=499"),
		saidToEach("bad 1", "get x", "get t", "get =", "get ,", "get param=t,", "get x=1", "get PARAM=t", "get param=t,param=t", "get step"), saidToEach("bad 2", "get param=", "get param=T", "get step=361", "get step=06", "get level=1101", "get time=2026-11-12", "get step=1/to", "get step=x,x", "get param=t\t"), saidToEach("bad 3", "get step=5/to/1", "get level=1/to/5/by/0", "get step=5/to/1,x"), saidToEach("bad 4", "get level=0/to/40", "get step=0/to/360"),
		[]string{"get level=500/to/539", "t" + at + "6 500 77", "store u 6 500 1", "stored 2"})...)
}

func TestTideLines(t *testing.T) {
	talks(t, slices.Concat([]string{"tide 200", "tide 11 24 36 47 60 72 83 96 108 119 132 144 155 168 180 191", "tide 1", "tide", "tide 2", "tide", "tide 12", "tide", "tide 13", "tide 11", "tide 25", "tide 11", "tide 26", "tide 11 24", "tide 37", "tide 11 24", "tide 38", "tide 11 24 36", "tide 40", "tide 11 24 36", "tide 000000040", "tide 11 24 36", "tide 192", "tide 11 24 36 47 60 72 83 96 108 119 132 144 155 168 180", "tide 193", "tide 11 24 36 47 60 72 83 96 108 119 132 144 155 168 180 191", "tick 60", "at 2026-11-12T13:00Z", "tide 13", "tide 11"},
		saidToEach("what", "tide", "tide 0", "tide 000", "tide 201", "tide 999999999", "tide 0000000040", "tide -1", "tide x", "tide 40 1", "tide 4.5", "Tide 40", "tides 40"))...)
}

// alert is a warning of the second way: a box of spots, and the times from when to when.
type alert struct {
	version, level, left, low, right, upper, from, to int64
}

// office is a service of another making: it keeps what stands by its names.
type office struct {
	clock    int64
	stations []int64
	spots    map[int64][2]int64
	heard    []impl.Obs
	when     []int64
	alerts   map[int64]alert
	told     map[[2]int64][2]int64
	forecast string
	near     int64
	entries  map[string]impl.Entry
}

var lineForms = map[string]*regexp.Regexp{}

// numbersIn reads a line by the form of its words: N for a number, W for any word, T for a text of one word or more.
func numbersIn(line, form string) ([]int64, string, bool) {
	if lineForms[form] == nil {
		lineForms[form] = regexp.MustCompile(`(?s)\A` + strings.NewReplacer("N", `([0-9]{1,9})`, "W", `([^ ]+)`, "T", `(.+)`).Replace(form) + `\z`)
	}
	parts := lineForms[form].FindStringSubmatch(line)
	if parts == nil {
		return nil, "", false
	}
	var numbers []int64
	text := ""
	for i, kind := range strings.Fields(form)[1:] {
		if kind != "N" {
			text = parts[i+1]
			continue
		}
		n, err := strconv.ParseInt(parts[i+1], 10, 64)
		if err != nil {
			panic(err)
		}
		numbers = append(numbers, n)
	}
	return numbers, text, true
}

// lines says what a script's lines say, each by itself.
func (o *office) lines(script string) []string {
	var list []string
	for _, line := range strings.Split(script, "\n") {
		if line = strings.Trim(squeezed(line), " "); line != "" {
			list = append(list, o.said(line))
		} else {
			list = append(list, "")
		}
	}
	return list
}

func (o *office) said(line string) string {
	for form, does := range map[string]func(n []int64, text string) string{
		"station N N N": o.station, "report T": o.report, "tick N": o.tick, "judge": o.judge, "text N": o.text, "warn N N N N N N N N": o.warn, "end N N": o.end, "notify": o.notify, "taf T": o.taf, "sky": o.sky, "store W N N N": o.store, "get W": o.get, "tide N": o.tide,
	} {
		if n, text, ok := numbersIn(line, form); ok {
			return does(n, text)
		}
	}
	return "what"
}

func (o *office) station(n []int64, _ string) string {
	if n[0] == 0 || n[0] > 99999 || n[1] > 1000000 || n[2] > 1000000 {
		return "what"
	}
	if _, there := o.spots[n[0]]; there {
		return "twice"
	}
	if len(o.spots) > 29 {
		return "full"
	}
	o.spots[n[0]] = [2]int64{n[1], n[2]}
	o.stations = append(o.stations, n[0])
	return fmt.Sprint("station ", n[0])
}

func (o *office) report(_ []int64, text string) string {
	obs, faults, code := impl.ReadObs(text)
	if code != 0 {
		return fmt.Sprint("bad ", code)
	}
	if _, there := o.spots[obs.Station]; !there {
		return "none"
	}
	o.heard, o.when = append(o.heard, obs), append(o.when, o.clock)
	said := fmt.Sprint("report ", obs.Station)
	for _, f := range faults {
		said += fmt.Sprintf(" %d:%d", f.At, f.Code)
	}
	return said
}

func (o *office) tick(n []int64, _ string) string {
	if n[0] < 1 || n[0] > 1440 {
		return "what"
	}
	o.clock += n[0]
	return "at " + stampBySteps(o.clock)
}

func (o *office) judge([]int64, string) string {
	rules := impl.Rules{Low: -60, High: 50, Rate: 10, Radius: 50, Tol: 8, Guess: 10, Off: 30}
	var places []impl.Place
	for _, station := range slices.Sorted(maps.Keys(o.spots)) {
		places = append(places, siteOf(station, o.spots[station][0], o.spots[station][1]))
	}
	var reads []impl.Read
	for i, obs := range o.heard {
		reads = append(reads, readOf(obs.Station, o.when[i], obs.Temp))
	}
	said := ""
	for _, j := range judgeBySteps(rules, places, reads) {
		temp := "/"
		if j.X == j.X {
			temp = strconv.FormatFloat(j.X, 'f', 1, 64)
		}
		said += fmt.Sprintf("%d %s %s %d\n", j.Station, stampBySteps(j.T), temp, j.Flags)
	}
	if said == "" {
		return "nothing"
	}
	return strings.TrimSuffix(said, "\n")
}

// nearestEighth tries all eight, as angles.
func nearestEighth(dir int64) int64 {
	best, off := int64(0), int64(999)
	for eighth := int64(1); eighth <= 8; eighth++ {
		away := (10*dir - 45*eighth + 720) % 360
		if away = min(away, 360-away); away < off {
			best, off = eighth, away
		}
	}
	return best
}

func (o *office) text(n []int64, _ string) string {
	if n[0] < 1 || n[0] > 3 {
		return "what"
	}
	if len(o.heard) == 0 || o.heard[len(o.heard)-1].Dir < 0 {
		return "none"
	}
	last := o.heard[len(o.heard)-1]
	var s impl.Say
	if last.Dir > 0 {
		s.Dir = nearestEighth(last.Dir)
	}
	for _, tenths := range []float64{3, 16, 34, 55, 80, 108, 139, 172, 208, 245, 285, 327} {
		if last.Speed*10 >= tenths {
			s.Force, s.Later = s.Force+1, s.Later+1
		}
	}
	if last.Rain > 0 {
		s.Rain = 1
		if last.Temp < 0 {
			s.Rain = 2
		}
		for station := range o.spots {
			for _, obs := range slices.Backward(o.heard) {
				if obs.Station == station {
					if obs.Rain > 0 {
						s.Places++
					}
					break
				}
			}
		}
	}
	return saidBySteps(s, n[0])
}

// announce tells the first reason against a warning, or has it stand.
func (o *office) announce(word string, id int64, a alert) string {
	last, there := o.alerts[id]
	outside := func(n, most int64) bool { return n < 1 || n > most }
	switch {
	case outside(id, 1000000) || outside(a.version, 1000000) || outside(a.level, 5) || a.right > 1000000 || a.upper > 1000000 || a.to == a.from && word == "warn" || a.to > 52596000:
		return "refused 2"
	case there && last.version >= a.version:
		return "refused 3"
	case !there && len(o.alerts) > 39:
		return "refused 4"
	}
	if word == "end" {
		a.from, a.to = -1, -1
	}
	o.alerts[id] = a
	return fmt.Sprint(word, " ", id, " ", a.version)
}

func (o *office) warn(n []int64, _ string) string {
	return o.announce("warn", n[0], alert{n[1], n[2], n[3], n[4], n[3] + n[5], n[4] + n[6], o.clock, o.clock + n[7]})
}

func (o *office) end(n []int64, _ string) string {
	last, there := o.alerts[n[0]]
	if !there {
		return "none"
	}
	last.version = n[1]
	return o.announce("end", n[0], last)
}

func (o *office) notify([]int64, string) string {
	said := ""
	for _, station := range o.stations {
		for _, id := range slices.Sorted(maps.Keys(o.alerts)) {
			a, spot := o.alerts[id], o.spots[station]
			state := [2]int64{a.version, 0}
			if o.clock >= a.from && o.clock < a.to && spot[0] >= a.left && spot[0] < a.right && spot[1] >= a.low && spot[1] < a.upper {
				state[1] = a.level
			}
			was := o.told[[2]int64{station, id}]
			if state != was && state[1]+was[1] > 0 {
				said += fmt.Sprintln(station, "warned", id, state[0], state[1])
				o.told[[2]int64{station, id}] = state
			}
		}
	}
	if said == "" {
		return "quiet"
	}
	return strings.TrimSuffix(said, "\n")
}

func (o *office) taf(_ []int64, text string) string {
	f, ok := impl.ReadTaf("TAF "+text, o.clock)
	if !ok {
		return "no"
	}
	o.forecast, o.near = "TAF "+text, o.clock
	worst := int64(9999)
	for at := f.Valid.From; at < f.Valid.To; at += 10 {
		holds, mayBe, _ := impl.StateAt(f, at)
		for _, s := range append(mayBe, holds) {
			worst = min(worst, s.Vis)
		}
	}
	for _, part := range impl.Parts(f) {
		holds, mayBe, _ := impl.StateAt(f, part.From)
		for _, s := range append(mayBe, holds) {
			worst = min(worst, s.Vis)
		}
	}
	return fmt.Sprint("taf ", text[:4], " ", worst)
}

func (o *office) sky([]int64, string) string {
	f, _ := impl.ReadTaf(o.forecast, o.near)
	if o.forecast == "" || o.clock < f.Valid.From || o.clock >= f.Valid.To {
		return "none"
	}
	sky := func(parts [4]string) string { return strings.Join(parts[:], " ") }
	said := sky(holdsBySteps(f, o.clock))
	for _, parts := range mayBeBySteps(f, o.clock) {
		said += " or " + sky(parts)
	}
	return said
}

func (o *office) store(n []int64, param string) string {
	e := entryOf(param, o.clock, n[0], n[1], n[2])
	if !rightEntry(e) {
		return "no"
	}
	o.entries[keyText(e)] = e
	return fmt.Sprint("stored ", len(o.entries))
}

func (o *office) get(_ []int64, text string) string {
	r, code := requestBySteps(text)
	if code != 0 {
		return fmt.Sprint("bad ", code)
	}
	said := ""
	for _, e := range pickBySteps(sortedByKey(o.entries), r) {
		said += fmt.Sprintln(e.Param, stampBySteps(e.Time), e.Step, e.Level, e.Size)
	}
	if said == "" {
		return "nothing"
	}
	return strings.TrimSuffix(said, "\n")
}

func (o *office) tide(n []int64, _ string) string {
	if n[0] < 1 || n[0] > 200 {
		return "what"
	}
	parts := []impl.Constituent{{Speed: 3, Amp: pairAt(2, 0.5)}, {Speed: 1, Amp: pairAt(0.5, 0)}}
	said := "tide"
	for hour := int64(1); hour < n[0]-1; hour++ {
		ahead, now, behind := heightBySteps(parts, hour-1), heightBySteps(parts, hour), heightBySteps(parts, hour+1)
		if now > ahead && now >= behind {
			said += fmt.Sprint(" ", hour)
		}
	}
	return said
}

func newOffice() *office {
	return &office{clock: serviceClock, spots: map[int64][2]int64{}, alerts: map[int64]alert{}, told: map[[2]int64][2]int64{}, entries: map[string]impl.Entry{}}
}

// servesBySteps holds Serve against the second way, and answers what is said to each line.
func servesBySteps(t *testing.T, script string) []string {
	t.Helper()
	got := impl.Serve(script)
	if len(script) > 20000 || strings.Count(script, "\n") > 60 || script != "" && !strings.HasSuffix(script, "\n") {
		if got != "too long\n" {
			t.Fatalf("to %.200q is said %.200q", script, got)
		}
		return nil
	}
	said := newOffice().lines(strings.TrimSuffix(script, "\n"))
	if want := saidBy(said); got != want {
		t.Fatalf("to %q is said %q and not %q", script, got, want)
	}
	return said
}

func saidBy(lines []string) string {
	text := ""
	for _, line := range lines {
		if line != "" {
			text += line + "\n"
		}
	}
	return text
}

func rolledReport(d *dice) string {
	words := []string{"report", []string{"00001", "00001", "00002", "00003", "00007", "02501", "99999", "00000"}[d.below(8)]}
	groups := []string{fmt.Sprintf("1%d%03d", d.below(2), []int64{1, 100, 250, 500, 600, d.below(1000)}[d.below(6)]), fmt.Sprintf("2%d%03d", d.below(2), d.below(1000)), fmt.Sprintf("3%04d", d.below(10000)), []string{"40000", fmt.Sprintf("4%02d%02d", 1+d.below(37), d.below(40))}[min(1, d.below(5))], fmt.Sprintf("5%04d", d.below(10000)), fmt.Sprintf("6%04d", d.below(3)), fmt.Sprintf("7%02d%d0", d.below(100), d.below(10))}
	for i, group := range groups {
		if d.below(3) > 0 || (i == 0 || i == 3) && d.below(3) > 0 {
			words = append(words, group)
		}
	}
	switch d.below(14) {
	case 0:
		words = append(words, []string{"x", "1O0I0", "4////", "80000", "7991o"}[d.below(5)])
	case 1:
		return strings.Join(words, " ")
	case 2:
		return strings.Join(words, " ") + " ="
	}
	return strings.Join(words, " ") + "="
}

func rolledForecast(d *dice) string {
	first := int64(serviceClock/60) + d.below(13) - 6
	valid := impl.Span{From: 60 * first, To: 60 * (first + 1 + d.below(36))}
	f := impl.Taf{Centre: []string{"AMMC", "EDDF", "K1A2"}[d.below(3)], Issued: valid.From - d.below(300), Valid: valid, Sky: rolledSky(d), Changes: rolledChanges(d, valid, d.below(6))}
	text := "taf" + strings.TrimPrefix(impl.TafText(f), "TAF")
	if d.below(8) == 0 {
		return strings.TrimSuffix(text, "=")
	}
	return text
}

// rolledLine has few stations, spots, warnings and keys, so that they meet.
func rolledLine(d *dice) string {
	few := func(n int64) int64 { return d.below(n) }
	switch d.below(20) {
	case 0, 1:
		return fmt.Sprintf("station %d %d %d", []int64{1, 2, 3, 7, 2501, 99999, 0, 100000}[few(8)], few(60), few(60))
	case 2, 3, 4, 5:
		return rolledReport(d)
	case 6:
		return fmt.Sprintf("tick %d", []int64{1, 10, 60, 60, 120, 1440, few(1500)}[few(7)])
	case 7:
		return "judge"
	case 8:
		return fmt.Sprintf("text %d", few(5))
	case 9, 10:
		return fmt.Sprintf("warn %d %d %d %d %d %d %d %d", 1+few(3), 1+few(12), few(6), few(40), few(40), few(60), few(60), []int64{0, 1, 60, 120, 300, 1440}[few(6)])
	case 11:
		return fmt.Sprintf("end %d %d", 1+few(4), few(20))
	case 12, 13:
		return "notify"
	case 14:
		return rolledForecast(d)
	case 15:
		return "sky"
	case 16, 17:
		return fmt.Sprintf("store %s %d %d %d", []string{"t", "u", "tt", "z", "T"}[few(5)], []int64{0, 6, 12, 361}[few(4)], []int64{0, 500, 1101}[few(3)], few(1000))
	case 18:
		return "get " + []string{rolledRequestText(d), "param=t/u", "step=0/to/12/by/6", "level=500", "time=2026-11-12T12:00Z"}[few(5)]
	}
	return fmt.Sprintf("tide %d", few(203))
}

// spoiltLine has a word more, less, or another one, or blanks.
func spoiltLine(d *dice, line string) string {
	words := strings.Split(line, " ")
	at := int(d.below(int64(len(words))))
	switch d.below(10) {
	case 0:
		words = slices.Delete(words, at, at+1)
	case 1:
		words = slices.Insert(words, at, "1")
	case 2:
		words[at] = []string{"-1", "x", "0000000001", "1000000000", "+1", "1.5", "\t", "000000001", "999999999"}[d.below(9)]
	case 3:
		words[at] = strings.ToUpper(words[at])
	case 4:
		words[at] += "\t"
	case 5:
		words = append(words, "x")
	case 6:
		return ""
	case 7:
		return "  "
	default:
		words[at] = "  " + words[at] + "   "
	}
	return strings.Join(words, " ")
}

func rolledScript(d *dice, count int64) []string {
	var lines []string
	for _, station := range []int64{1, 2, 3, 7} {
		if d.below(4) > 0 && int64(len(lines)) < count {
			lines = append(lines, fmt.Sprintf("station %d %d %d", station, d.below(60), d.below(60)))
		}
	}
	for int64(len(lines)) < count {
		line := rolledLine(d)
		if d.below(10) == 0 {
			line = spoiltLine(d, line)
		}
		lines = append(lines, line)
	}
	return lines
}

func scriptOf(lines []string) string {
	if len(lines) == 0 {
		return ""
	}
	return strings.Join(lines, "\n") + "\n"
}

// refusals are what is said of a line that has changed nothing.
var refusals = []string{"what", "no", "none", "full", "twice", "refused", "bad"}

// Promise 26: what is said is what the chapters say, and what was said stays said; a refused line is as if it had not stood there.
func TestRolledScripts(t *testing.T) {
	d := dice(2601)
	came := map[string]int{}
	for range 1500 {
		lines := rolledScript(&d, d.below(61))
		script := scriptOf(lines)
		said := servesBySteps(t, script)
		whole := impl.Serve(script)
		if impl.Serve(script) != whole {
			t.Fatalf("to %q are said two things", script)
		}
		var kept, keptSaid, changing []string
		for i, line := range lines {
			first, _, _ := strings.Cut(said[i], " ")
			came[kindOfTurn(line, first)]++
			if said[i] != "" && !slices.Contains(refusals, first) {
				kept, keptSaid = append(kept, line), append(keptSaid, said[i])
			}
			if words := strings.Fields(line); len(words) > 0 && !slices.Contains([]string{"judge", "text", "sky", "get", "tide"}, words[0]) {
				changing = append(changing, line)
			}
			if ahead := impl.Serve(scriptOf(lines[:i])); !strings.HasPrefix(whole, ahead) || ahead != saidBy(said[:i]) {
				t.Fatalf("behind %d lines of %q is said %q", i, script, ahead)
			}
		}
		if got := impl.Serve(scriptOf(kept)); got != saidBy(keptSaid) {
			t.Fatalf("without what was refused %q says %q and not %q", scriptOf(kept), got, saidBy(keptSaid))
		}
		// What only asks changes nothing, either.
		servesBySteps(t, scriptOf(changing))
		for _, line := range []string{"judge", "notify", "get level=0/500", "text 1", "sky"} {
			if len(lines) < 60 && saidLast(lines, line) != saidLast(changing, line) {
				t.Fatalf("behind %q another thing is said to %q than behind %q", script, line, scriptOf(changing))
			}
		}
	}
	for _, kind := range []string{"", "station well", "station twice", "station what", "report well", "report bad", "report none", "tick well", "tick what", "judge well", "judge nothing", "text well", "text none", "text what", "warn well", "warn refused", "end well", "end none", "end refused", "notify well", "notify quiet", "taf well", "taf no", "sky well", "sky none", "store well", "store no", "get well", "get nothing", "get bad", "tide well", "tide what"} {
		if came[kind] < 60 {
			t.Errorf("%q came only %d times", kind, came[kind])
		}
	}
}

// saidLast is what is said to one more line.
func saidLast(lines []string, line string) string {
	all, ahead := impl.Serve(scriptOf(append(slices.Clone(lines), line))), impl.Serve(scriptOf(lines))
	return strings.TrimPrefix(all, ahead)
}

// kindOfTurn is the first word of a line, with that of what is said where it is one of a few.
func kindOfTurn(line, first string) string {
	if first == "" {
		return ""
	}
	if !slices.Contains(append([]string{"nothing", "quiet"}, refusals...), first) {
		first = "well"
	}
	word, _, _ := strings.Cut(strings.Trim(line, " "), " ")
	return word + " " + first
}

// Each refused line, put in anywhere, changes nothing but that it is said.
func TestRefusedLinesLeaveNothing(t *testing.T) {
	const text = "AMMC 121210Z 1212/1222 24015KT 9999 NSW BKN012="
	lines := []string{"station 1 10 10", "station 2 20 20", "report 00001 10105 41805 60001=", "report 00002 11001 42705 60001=", "text 1", "judge", "warn 4 5 2 0 0 15 15 90", "notify", "taf " + text, "sky", "store t 6 500 77", "get param=t", "tick 60", "report 00001 10200 41805 60001=", "judge", "text 2", "end 4 6", "notify", "warn 4 7 3 0 0 30 30 60", "notify", "store t 6 500 78", "get level=500", "sky", "tide 30"}
	said := servesBySteps(t, scriptOf(lines))
	for refused, answer := range map[string]string{
		"station 1 0 0": "twice", "station 0 0 0": "what", "station 9 1 1000001": "what", "report 00001 10999": "bad 1", "report =": "bad 2", "report 1 10999=": "bad 3", "report 00009 10999 40000 60001=": "none", "tick 0": "what", "tick 1441": "what", "tick 60 1": "what", "judge 1": "what", "text 4": "what", "warn 4 1 5 0 0 99 99 999": "refused 3", "warn 4 99 6 0 0 99 99 999": "refused 2", "warn 5 1 5 0 0 99 99 0": "refused 2", "warn 5 1 5 0 0 99 99": "what", "end 4 5": "refused 3", "end 4 0": "refused 2", "end 5 9": "none", "end 4 9 9": "what", "notify 1": "what", "taf EDDF 121210Z 1212/1222 24015KT 9999 NSW BKN012": "no", "taf": "what", "sky 1": "what", "store T 6 500 99": "no", "store t 361 500 99": "no", "store t 6 500": "what", "get x": "bad 1", "get step=x": "bad 2", "get step=2/to/1": "bad 3", "get step=0/to/99": "bad 4", "get": "what", "tide 201": "what", "x": "what", "": "", "  ": "",
	} {
		for at := range len(lines) + 1 {
			// Ahead of what it hangs on, a line may be no refusal, or another one.
			if at < 9 && answer != "what" && answer != "" {
				continue
			}
			want := saidBy(slices.Insert(slices.Clone(said), at, answer))
			if got := impl.Serve(scriptOf(slices.Insert(slices.Clone(lines), at, refused))); got != want {
				t.Fatalf("with %q at %d is said %q and not %q", refused, at, got, want)
			}
		}
	}
}

// Blanks ahead of, between and behind words say nothing, nor do lines without words.
func TestBlanksOfScripts(t *testing.T) {
	d := dice(2602)
	for range 200 {
		lines := rolledScript(&d, d.below(25))
		want := impl.Serve(scriptOf(lines))
		var spread []string
		for _, line := range lines {
			if d.below(3) == 0 {
				spread = append(spread, strings.Repeat(" ", int(d.below(4))))
			}
			line = strings.Repeat(" ", int(d.below(4))) + strings.ReplaceAll(line, " ", strings.Repeat(" ", 1+int(d.below(3)))) + strings.Repeat(" ", int(d.below(4)))
			spread = append(spread, line)
		}
		if got := impl.Serve(scriptOf(spread)); got != want {
			t.Fatalf("to %q is said %q and not %q", scriptOf(spread), got, want)
		}
	}
}
