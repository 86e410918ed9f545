package tests

import (
	"math"
	"slices"
	"strings"
	"testing"
	"time"

	"loop.example/g00051/impl"
)

const (
	dayLength = 1440
	days      = impl.MaxTime / dayLength
)

// calendar is the library's, which is the document's from 2000 up to the beginning of 2100.
func calendar(t int64) time.Time {
	return time.Date(2000, 1, 1, 0, int(t), 0, 0, time.UTC)
}

func calendarDate(t int64) impl.Date {
	c := calendar(t)
	return impl.Date{Year: int64(c.Year()), Month: int64(c.Month()), Day: int64(c.Day()), Hour: int64(c.Hour()), Minute: int64(c.Minute())}
}

// someTimes are a few of every day, in order, and the last time of all.
func someTimes() []int64 {
	var list []int64
	for day := range int64(days) {
		for _, minute := range []int64{0, 1, 59, 60, 450, 1380, 1439} {
			list = append(list, day*dayLength+minute)
		}
	}
	return append(list, impl.MaxTime)
}

func TestTimesAndDatesAndStamps(t *testing.T) {
	last := ""
	for _, n := range someTimes() {
		d, ok := impl.DateOf(n)
		if want := calendarDate(n); d != want || !ok {
			t.Fatalf("DateOf(%d) = %v, %v, not %v", n, d, ok, want)
		}
		if back, ok := impl.TimeOf(d); back != n || !ok {
			t.Fatalf("TimeOf(%v) = %d, %v, not %d", d, back, ok, n)
		}
		stamp := impl.Stamp(n)
		if want := calendar(n).Format("2006-01-02T15:04Z"); stamp != want {
			t.Fatalf("Stamp(%d) = %q, not %q", n, stamp, want)
		}
		if back, ok := impl.ReadStamp(stamp); back != n || !ok {
			t.Fatalf("ReadStamp(%q) = %d, %v, not %d", stamp, back, ok, n)
		}
		if stamp <= last {
			t.Fatalf("%q is not above %q", stamp, last)
		}
		last = stamp
	}
}

func TestDaysOfYearsAndWeeks(t *testing.T) {
	for _, n := range someTimes() {
		c := calendar(n)
		if got := impl.DayOfYear(n); got != int64(c.YearDay()) {
			t.Fatalf("DayOfYear(%d) = %d", n, got)
		}
		if got := impl.Weekday(n); got != (int64(c.Weekday())+6)%7+1 {
			t.Fatalf("Weekday(%d) = %d", n, got)
		}
	}
	for _, n := range noTimes() {
		if impl.DayOfYear(n) != 0 || impl.Weekday(n) != 0 {
			t.Error("no time", n)
		}
	}
	if impl.DayOfYear(impl.MaxTime) != 1 || impl.DayOfYear(impl.MaxTime-1) != 365 || impl.DayOfYear(366*dayLength-1) != 366 {
		t.Error("the ends of years")
	}
	if impl.Weekday(0) != 6 || impl.Weekday(impl.MaxTime) != 5 {
		t.Error("the first day and the last")
	}
}

func noTimes() []int64 {
	return []int64{-1, -dayLength, impl.MaxTime + 1, impl.MaxTime + dayLength, math.MinInt64, math.MaxInt64}
}

func TestNoTimesHaveNoDate(t *testing.T) {
	for _, n := range noTimes() {
		if d, ok := impl.DateOf(n); d != (impl.Date{}) || ok {
			t.Error(n, d, ok)
		}
		if s := impl.Stamp(n); s != "" {
			t.Error(n, s)
		}
	}
	if s := impl.Stamp(impl.MaxTime); s != "2100-01-01T00:00Z" {
		t.Error(s)
	}
	if s := impl.Stamp(impl.MaxTime - 1); s != "2099-12-31T23:59Z" {
		t.Error(s)
	}
}

// lengths of the months, of a year that is not leap.
func lengths() []int64 {
	return []int64{31, 28, 31, 30, 31, 30, 31, 31, 30, 31, 30, 31}
}

func TestLastDaysOfMonths(t *testing.T) {
	for year := int64(2000); year <= 2099; year++ {
		for i, last := range lengths() {
			if i == 1 && year%4 == 0 {
				last++
			}
			month := int64(i + 1)
			end, ok := impl.TimeOf(impl.Date{Year: year, Month: month, Day: last, Hour: 23, Minute: 59})
			if !ok {
				t.Fatal("no last day", year, month)
			}
			if _, ok := impl.TimeOf(impl.Date{Year: year, Month: month, Day: last + 1}); ok {
				t.Fatal("a day too many", year, month)
			}
			if d, _ := impl.DateOf(end + 1); d.Day != 1 || d.Month != month%12+1 {
				t.Fatal("the day behind", year, month, d)
			}
		}
	}
}

func TestDatesThatAreNotRight(t *testing.T) {
	for _, d := range []impl.Date{
		{}, {Year: 1999, Month: 12, Day: 31}, {Year: 1999, Month: 12, Day: 31, Hour: 23, Minute: 59},
		{Year: 2000, Month: 0, Day: 1}, {Year: 2000, Month: 13, Day: 1}, {Year: 2000, Month: -1, Day: 1},
		{Year: 2000, Month: 1, Day: 0}, {Year: 2000, Month: 1, Day: 32}, {Year: 2000, Month: 1, Day: -1}, {Year: 2000, Month: 4, Day: 31},
		{Year: 2000, Month: 2, Day: 30}, {Year: 2001, Month: 2, Day: 29}, {Year: 2098, Month: 2, Day: 29}, {Year: 2100, Month: 2, Day: 29},
		{Year: 2000, Month: 1, Day: 1, Hour: -1}, {Year: 2000, Month: 1, Day: 1, Hour: 24}, {Year: 2099, Month: 12, Day: 31, Hour: 24},
		{Year: 2000, Month: 1, Day: 1, Minute: -1}, {Year: 2000, Month: 1, Day: 1, Minute: 60},
		{Year: 2100, Month: 1, Day: 1, Minute: 1}, {Year: 2100, Month: 1, Day: 1, Hour: 1}, {Year: 2100, Month: 1, Day: 2}, {Year: 2100, Month: 2, Day: 1}, {Year: 2101, Month: 1, Day: 1},
		{Year: math.MaxInt64, Month: 1, Day: 1}, {Year: math.MinInt64, Month: 1, Day: 1}, {Year: 2000, Month: math.MaxInt64, Day: 1}, {Year: 2000, Month: math.MinInt64, Day: 1},
		{Year: 2000, Month: 1, Day: math.MaxInt64}, {Year: 2000, Month: 1, Day: 1, Hour: math.MaxInt64}, {Year: 2000, Month: 1, Day: 1, Minute: math.MinInt64},
	} {
		if n, ok := impl.TimeOf(d); n != 0 || ok {
			t.Errorf("TimeOf(%v) = %d, %v", d, n, ok)
		}
	}
	for _, c := range []struct {
		d impl.Date
		n int64
	}{
		{impl.Date{Year: 2000, Month: 1, Day: 1}, 0},
		{impl.Date{Year: 2000, Month: 2, Day: 29, Hour: 23, Minute: 59}, 60*dayLength - 1},
		{impl.Date{Year: 2001, Month: 1, Day: 1}, 366 * dayLength},
		{impl.Date{Year: 2004, Month: 1, Day: 1}, 1461 * dayLength},
		{impl.Date{Year: 2099, Month: 12, Day: 31, Hour: 23, Minute: 59}, impl.MaxTime - 1},
		{impl.Date{Year: 2100, Month: 1, Day: 1}, impl.MaxTime},
	} {
		if n, ok := impl.TimeOf(c.d); n != c.n || !ok {
			t.Errorf("TimeOf(%v) = %d, %v", c.d, n, ok)
		}
	}
}

func TestReadStampReadsNothingElse(t *testing.T) {
	for _, text := range []string{
		"", "2026", "2026-11-15", "2026-11-15T07:30", "2026-11-15T07:30:00Z", "2026-11-15T07:30Z ", " 2026-11-15T07:30Z", "2026-11-15T07:30ZZ", "2026-11-15T7:30Z", "2026-11-5T07:30Z",
		"2026-11-15t07:30Z", "2026-11-15T07:30z", "2026-11-15 07:30Z", "2026/11/15T07:30Z", "2026-11-15T07.30Z", "2026-11-15T07:30+", "2026111500T07:30Z",
		"+026-11-15T07:30Z", "-026-11-15T07:30Z", "2026--1-15T07:30Z", "2026-+1-15T07:30Z", "2026-11- 5T07:30Z", "2026-11-15T 7:30Z", "2026-11-15T07:3 Z", "2O26-11-15T07:30Z", "2026-11-15T07:3:Z", "2026-11-15T07:3/Z",
		"1999-12-31T23:59Z", "2100-01-01T00:01Z", "2100-01-02T00:00Z", "2100-02-01T00:00Z", "2101-01-01T00:00Z", "9999-12-31T00:00Z",
		"2026-00-15T07:30Z", "2026-13-15T07:30Z", "2026-11-00T07:30Z", "2026-11-31T07:30Z", "2026-02-29T07:30Z", "2024-02-30T07:30Z", "2026-11-15T24:00Z", "2099-12-31T24:00Z", "2026-11-15T07:60Z",
		"\xff026-11-15T07:30Z", "2026-11-15T07:30\x00", strings.Repeat("2", 17), strings.Repeat("2", 100000),
	} {
		if n, ok := impl.ReadStamp(text); n != 0 || ok {
			t.Errorf("ReadStamp(%.40q) = %d, %v", text, n, ok)
		}
	}
	const stamp = "2026-11-15T07:30Z"
	if n, ok := impl.ReadStamp(stamp); !ok || impl.Stamp(n) != stamp {
		t.Error(stamp, n, ok)
	}
	for i := range len(stamp) {
		for b := range 256 {
			text := stamp[:i] + string([]byte{byte(b)}) + stamp[i+1:]
			n, ok := impl.ReadStamp(text)
			if c, err := time.Parse("2006-01-02T15:04Z", text); ok != (err == nil && c.Year() >= 2000 && c.Year() < 2100) || ok && impl.Stamp(n) != text || !ok && n != 0 {
				t.Errorf("ReadStamp(%q) = %d, %v", text, n, ok)
			}
		}
	}
}

// dayNumbers are, of every day of the month, the days of all years that have it.
func dayNumbers() [32][]int64 {
	var list [32][]int64
	for n := range int64(days + 1) {
		day := calendar(n * dayLength).Day()
		list[day] = append(list[day], n)
	}
	return list
}

// nearByAll looks at all times there are.
func nearByAll(numbers []int64, hour, minute, ref int64) int64 {
	best := int64(-1)
	for _, n := range numbers {
		t := n*dayLength + hour*60 + minute
		if t > impl.MaxTime {
			continue
		}
		if best < 0 || max(t-ref, ref-t) < max(best-ref, ref-best) {
			best = t
		}
	}
	return best
}

func TestNearDayIsNearest(t *testing.T) {
	numbers := dayNumbers()
	refs := []int64{0, 1, 1439, 1440, 44639, 44640, 44641, impl.MaxTime, impl.MaxTime - 1, impl.MaxTime - 1440, impl.MaxTime - 44640}
	for month := range int64(14) {
		refs = append(refs, month*30*dayLength+700, 2000*dayLength+month*30*dayLength, impl.MaxTime-month*30*dayLength)
	}
	d := dice(5)
	for range 40 {
		refs = append(refs, d.below(impl.MaxTime+1), d.below(days)*dayLength)
	}
	for _, clock := range [][2]int64{{0, 0}, {0, 1}, {12, 0}, {23, 59}, {24, 0}} {
		for day := int64(1); day <= 31; day++ {
			for _, ref := range refs {
				want := nearByAll(numbers[day], clock[0], clock[1], ref)
				if got, ok := impl.NearDay(day, clock[0], clock[1], ref); got != want || !ok {
					t.Fatalf("NearDay(%d, %d, %d, %d) = %d, %v, not %d", day, clock[0], clock[1], ref, got, ok, want)
				}
			}
		}
	}
}

func TestNearDayIsFoundAgain(t *testing.T) {
	const reach = 14*dayLength - 1
	d := dice(6)
	for _, n := range someTimes() {
		date := calendarDate(n)
		ref := min(max(n+d.below(2*reach+1)-reach, 0), impl.MaxTime)
		if got, ok := impl.NearDay(date.Day, date.Hour, date.Minute, ref); got != n || !ok {
			t.Fatalf("%v near %d = %d, %v, not %d", date, ref, got, ok, n)
		}
		if n%dayLength != 0 || n == 0 {
			continue
		}
		ended := calendarDate(n - 1)
		if got, ok := impl.NearDay(ended.Day, 24, 0, ref); got != n || !ok {
			t.Fatalf("the end of %v near %d = %d, %v, not %d", ended, ref, got, ok, n)
		}
	}
}

func timeOf(year, month, day, hour, minute int64) int64 {
	return int64(time.Date(int(year), time.Month(month), int(day), int(hour), int(minute), 0, 0, time.UTC).Sub(calendar(0)) / time.Minute)
}

func TestNearDayEdges(t *testing.T) {
	halfway := timeOf(2001, 2, 15, 0, 0)
	for _, c := range []struct{ day, hour, minute, ref, want int64 }{
		{1, 0, 0, halfway - 1, timeOf(2001, 2, 1, 0, 0)},
		{1, 0, 0, halfway, timeOf(2001, 2, 1, 0, 0)}, // of two as near the earlier one
		{1, 0, 0, halfway + 1, timeOf(2001, 3, 1, 0, 0)},
		{29, 12, 0, timeOf(2001, 2, 20, 0, 0), timeOf(2001, 1, 29, 12, 0)},
		{29, 12, 0, timeOf(2004, 2, 20, 0, 0), timeOf(2004, 2, 29, 12, 0)},
		{30, 0, 0, timeOf(2004, 2, 29, 0, 0), timeOf(2004, 1, 30, 0, 0)},
		{31, 23, 59, timeOf(2010, 4, 15, 23, 59), timeOf(2010, 3, 31, 23, 59)},
		{31, 24, 0, timeOf(2010, 5, 1, 0, 0), timeOf(2010, 4, 1, 0, 0)}, // April has no 31st that ends
		{30, 24, 0, timeOf(2010, 5, 1, 0, 0), timeOf(2010, 5, 1, 0, 0)},
		{28, 24, 0, timeOf(2012, 3, 1, 0, 0), timeOf(2012, 2, 29, 0, 0)},
		{29, 24, 0, timeOf(2012, 3, 1, 0, 0), timeOf(2012, 3, 1, 0, 0)},
		{28, 24, 0, timeOf(2013, 3, 1, 0, 0), timeOf(2013, 3, 1, 0, 0)},
		{31, 24, 0, timeOf(2013, 12, 31, 0, 0), timeOf(2014, 1, 1, 0, 0)},
		{1, 0, 0, impl.MaxTime, impl.MaxTime},
		{1, 0, 1, impl.MaxTime, timeOf(2099, 12, 1, 0, 1)},
		{1, 24, 0, impl.MaxTime, timeOf(2099, 12, 2, 0, 0)},
		{2, 0, 0, impl.MaxTime, timeOf(2099, 12, 2, 0, 0)},
		{31, 24, 0, impl.MaxTime, impl.MaxTime},
		{31, 24, 0, 0, 44640}, // no day of the calendar ends at its beginning
		{1, 0, 0, 0, 0}, {31, 0, 0, 0, 30 * dayLength}, {1, 24, 0, 0, dayLength},
	} {
		if got, ok := impl.NearDay(c.day, c.hour, c.minute, c.ref); got != c.want || !ok {
			t.Errorf("NearDay(%d, %d, %d, %d) = %d, %v, not %d", c.day, c.hour, c.minute, c.ref, got, ok, c.want)
		}
	}
}

func TestNearDayRefuses(t *testing.T) {
	for _, c := range [][4]int64{
		{0, 0, 0, 0}, {32, 0, 0, 0}, {-1, 0, 0, 0}, {math.MaxInt64, 0, 0, 0}, {math.MinInt64, 0, 0, 0},
		{1, -1, 0, 0}, {1, 25, 0, 0}, {1, math.MaxInt64, 0, 0}, {1, math.MinInt64, 0, 0},
		{1, 0, -1, 0}, {1, 0, 60, 0}, {1, 0, math.MaxInt64, 0}, {1, 0, math.MinInt64, 0}, {1, 24, 1, 0}, {1, 24, 59, 0}, {1, 24, -1, 0},
		{1, 0, 0, -1}, {1, 0, 0, impl.MaxTime + 1}, {1, 0, 0, math.MaxInt64}, {1, 0, 0, math.MinInt64},
	} {
		if got, ok := impl.NearDay(c[0], c[1], c[2], c[3]); got != 0 || ok {
			t.Errorf("NearDay(%v) = %d, %v", c, got, ok)
		}
	}
}

func TestOverlap(t *testing.T) {
	const end = impl.MaxTime
	for _, c := range []struct {
		a, b, both impl.Span
		ok         bool
	}{
		{impl.Span{From: 0, To: 10}, impl.Span{From: 5, To: 20}, impl.Span{From: 5, To: 10}, true},
		{impl.Span{From: 0, To: 20}, impl.Span{From: 5, To: 10}, impl.Span{From: 5, To: 10}, true},
		{impl.Span{From: 5, To: 10}, impl.Span{From: 5, To: 10}, impl.Span{From: 5, To: 10}, true},
		{impl.Span{From: 0, To: end}, impl.Span{From: 0, To: end}, impl.Span{From: 0, To: end}, true},
		{impl.Span{From: 0, To: 10}, impl.Span{From: 9, To: 20}, impl.Span{From: 9, To: 10}, true},
		{impl.Span{From: end - 1, To: end}, impl.Span{From: 0, To: end}, impl.Span{From: end - 1, To: end}, true},
		{impl.Span{From: 0, To: 10}, impl.Span{From: 10, To: 20}, impl.Span{}, false},
		{impl.Span{From: 0, To: 10}, impl.Span{From: 11, To: 20}, impl.Span{}, false},
		{impl.Span{From: 5, To: 5}, impl.Span{From: 0, To: 10}, impl.Span{}, false},
		{impl.Span{From: 5, To: 5}, impl.Span{From: 5, To: 5}, impl.Span{}, false},
		{impl.Span{}, impl.Span{}, impl.Span{}, false},
		{impl.Span{From: 10, To: 5}, impl.Span{From: 0, To: 20}, impl.Span{}, false},
		{impl.Span{From: -1, To: 5}, impl.Span{From: 0, To: 20}, impl.Span{}, false},
		{impl.Span{From: 0, To: end + 1}, impl.Span{From: 0, To: 20}, impl.Span{}, false},
		{impl.Span{From: math.MinInt64, To: math.MaxInt64}, impl.Span{From: 0, To: 20}, impl.Span{}, false},
	} {
		for _, pair := range [][2]impl.Span{{c.a, c.b}, {c.b, c.a}} {
			if both, ok := impl.Overlap(pair[0], pair[1]); both != c.both || ok != c.ok {
				t.Errorf("Overlap(%v) = %v, %v", pair, both, ok)
			}
		}
	}
}

func TestOverlapHoldsWhatBothHold(t *testing.T) {
	for n := range 6 * 6 * 6 * 6 {
		a := impl.Span{From: int64(n % 6), To: int64(n / 6 % 6)}
		b := impl.Span{From: int64(n / 36 % 6), To: int64(n / 216)}
		both, ok := impl.Overlap(a, b)
		some := false
		for x := range int64(7) {
			held := a.From <= x && x < a.To && b.From <= x && x < b.To
			some = some || held
			if held != (both.From <= x && x < both.To) {
				t.Fatalf("Overlap(%v, %v) = %v at %d", a, b, both, x)
			}
		}
		if ok != some {
			t.Fatalf("Overlap(%v, %v): %v", a, b, ok)
		}
	}
}

func TestSlotsByLooking(t *testing.T) {
	for from := range int64(14) {
		for to := range int64(30) {
			for step := int64(1); step < 17; step++ {
				var want []int64
				for x := from; x < to; x++ {
					if x%step == 0 {
						want = append(want, x)
					}
				}
				if got := impl.Slots(impl.Span{From: from, To: to}, step); !slices.Equal(got, want) {
					t.Fatalf("Slots(%d .. %d, %d) = %v, not %v", from, to, step, got, want)
				}
			}
		}
	}
}

func TestSlotsEdges(t *testing.T) {
	const end = impl.MaxTime
	for _, c := range []struct {
		s           impl.Span
		step        int64
		count       int
		first, last int64
	}{
		{impl.Span{From: 0, To: impl.MaxSlots}, 1, impl.MaxSlots, 0, impl.MaxSlots - 1},
		{impl.Span{From: 0, To: impl.MaxSlots + 1}, 1, 0, 0, 0},
		{impl.Span{From: 7, To: impl.MaxSlots*60 + 1}, 60, impl.MaxSlots, 60, impl.MaxSlots * 60},
		{impl.Span{From: 0, To: impl.MaxSlots*60 + 1}, 60, 0, 0, 0},
		{impl.Span{From: 0, To: end}, 525600, 101, 0, 525600 * 100},
		{impl.Span{From: 0, To: end}, 525601, 0, 0, 0},
		{impl.Span{From: 0, To: end}, 52596, 1000, 0, end - 52596},
		{impl.Span{From: 0, To: end}, 1, 0, 0, 0},
		{impl.Span{From: end - 1440, To: end}, 1440, 1, end - 1440, end - 1440},
		{impl.Span{From: end, To: end}, 1, 0, 0, 0},
		{impl.Span{From: 0, To: 1}, 1, 1, 0, 0},
		{impl.Span{From: 0, To: 0}, 1, 0, 0, 0},
		{impl.Span{From: 0, To: 10}, 0, 0, 0, 0},
		{impl.Span{From: 0, To: 10}, -1, 0, 0, 0},
		{impl.Span{From: 0, To: 10}, math.MaxInt64, 0, 0, 0},
		{impl.Span{From: 0, To: 10}, math.MinInt64, 0, 0, 0},
		{impl.Span{From: 10, To: 9}, 1, 0, 0, 0},
		{impl.Span{From: -1, To: 10}, 1, 0, 0, 0},
		{impl.Span{From: end - 5, To: end + 1}, 1, 0, 0, 0},
		{impl.Span{From: math.MinInt64, To: math.MaxInt64}, 525600, 0, 0, 0},
	} {
		got := impl.Slots(c.s, c.step)
		if len(got) != c.count || c.count > 0 && (got[0] != c.first || got[c.count-1] != c.last) {
			t.Errorf("Slots(%v, %d): %d of them", c.s, c.step, len(got))
		}
	}
}
