package impl

const (
	MaxTime  = 52596000
	MaxSlots = 1000
)

type Date struct {
	Year   int64
	Month  int64
	Day    int64
	Hour   int64
	Minute int64
}

type Span struct {
	From int64
	To   int64
}

const (
	hourMinutes = 60
	dayMinutes  = 1440
	maxStep     = 525600
)

const (
	firstYear = 2000
	lastYear  = 2099
	// Every fourth year is leap here, 2000 too, so each four are alike.
	fourYearsDays = 1461
)

const (
	january = 1 + iota
	february
	march
	april
	may
	june
	july
	august
	september
	october
	november
	december
)

const firstWeekday = 6

// Two months that lack a day never follow one another, so the nearest time on
// it lies no further off than this.
const nearMonths = 2

var monthDays = [december + 1]int64{
	january: 31, february: 28, march: 31, april: 30, may: 31, june: 30,
	july: 31, august: 31, september: 30, october: 31, november: 30, december: 31,
}

func TimeOf(d Date) (int64, bool) {
	if !dateOk(d) {
		return 0, false
	}
	days := yearStart(d.Year) + d.Day - 1
	for ahead := range d.Month - 1 {
		days += daysIn(d.Year, january+ahead)
	}
	return days*dayMinutes + d.Hour*hourMinutes + d.Minute, true
}

func DateOf(t int64) (Date, bool) {
	if !isTime(t) {
		return Date{}, false
	}
	year, month, day := yearOf(t), int64(january), DayOfYear(t)
	for day > daysIn(year, month) {
		day -= daysIn(year, month)
		month++
	}
	minutes := t % dayMinutes
	return Date{year, month, day, minutes / hourMinutes, minutes % hourMinutes}, true
}

func Stamp(t int64) string {
	d, ok := DateOf(t)
	if !ok {
		return ""
	}
	return joined(padded(d.Year, 4), "-", padded(d.Month, 2), "-", padded(d.Day, 2),
		"T", padded(d.Hour, 2), ":", padded(d.Minute, 2), "Z")
}

func ReadStamp(text string) (int64, bool) {
	if len(text) != len("2000-01-01T00:00Z") {
		return 0, false
	}
	d := Date{figures(text[:4]), figures(text[5:7]), figures(text[8:10]),
		figures(text[11:13]), figures(text[14:16])}
	t, ok := TimeOf(d)
	// What stands between the figures is held against the stamp itself.
	if !ok || Stamp(t) != text {
		return 0, false
	}
	return t, true
}

func NearDay(day int64, hour int64, minute int64, ref int64) (int64, bool) {
	here, ok := DateOf(ref)
	if !ok || !clockOk(day, hour, minute) {
		return 0, false
	}
	best, found := int64(0), false
	first := (here.Year-firstYear)*december + here.Month - january - nearMonths
	for k := range int64(2*nearMonths + 1) {
		t, ok := dayOfMonth(first+k, day, hour*hourMinutes+minute)
		// The earlier ones come first: one that is only as near changes nothing.
		if ok && (!found || apart(t, ref) < apart(best, ref)) {
			best, found = t, true
		}
	}
	return best, found
}

func DayOfYear(t int64) int64 {
	if !isTime(t) {
		return 0
	}
	return t/dayMinutes - yearStart(yearOf(t)) + 1
}

func Weekday(t int64) int64 {
	if !isTime(t) {
		return 0
	}
	return (t/dayMinutes+firstWeekday-1)%7 + 1
}

func Overlap(a Span, b Span) (Span, bool) {
	if !spanOk(a) || !spanOk(b) {
		return Span{}, false
	}
	both := Span{From: max(a.From, b.From), To: min(a.To, b.To)}
	if both.From >= both.To {
		return Span{}, false
	}
	return both, true
}

func Slots(s Span, step int64) []int64 {
	if !spanOk(s) || !within(step, 1, maxStep) {
		return nil
	}
	first := byRoundedUp(s.From, step)
	count := byRoundedUp(s.To, step) - first
	if count > MaxSlots {
		return nil
	}
	slots := make([]int64, count)
	for i := range count {
		slots[i] = (first + i) * step
	}
	return slots
}

func isTime(t int64) bool {
	return within(t, 0, MaxTime)
}

func dateOk(d Date) bool {
	if d == (Date{Year: lastYear + 1, Month: january, Day: 1}) {
		return true
	}
	return within(d.Year, firstYear, lastYear) &&
		within(d.Month, january, december) &&
		within(d.Day, 1, daysIn(d.Year, d.Month)) &&
		within(d.Hour, 0, 23) && within(d.Minute, 0, 59)
}

func spanOk(s Span) bool {
	return isTime(s.From) && isTime(s.To) && s.From <= s.To
}

func holdsTime(s Span, t int64) bool {
	return s.From <= t && t < s.To
}

func clockOk(day int64, hour int64, minute int64) bool {
	return within(day, 1, 31) && within(hour, 0, 24) && within(minute, 0, 59) &&
		(hour < 24 || minute == 0)
}

func daysIn(year int64, month int64) int64 {
	if month == february && year%4 == 0 {
		return monthDays[february] + 1
	}
	return monthDays[month]
}

// yearStart rounds up as the leap year is the first of its four.
func yearStart(year int64) int64 {
	return byRoundedUp((year-firstYear)*fourYearsDays, 4)
}

func yearOf(t int64) int64 {
	return firstYear + t/dayMinutes*4/fourYearsDays
}

// dayOfMonth takes the month as its number from the first one of all on. The
// minutes are counted from the day's beginning, so that hour 24 is its end.
func dayOfMonth(number int64, day int64, minutes int64) (int64, bool) {
	if number < 0 {
		return 0, false
	}
	d := Date{Year: firstYear + number/december, Month: january + number%december, Day: day}
	start, ok := TimeOf(d)
	return start + minutes, ok && isTime(start+minutes)
}

func apart(a int64, b int64) int64 {
	return max(a, b) - min(a, b)
}

func byRoundedUp(n int64, by int64) int64 {
	return (n + by - 1) / by
}

// figures tells -1 of anything but digits; it is asked of a few of them only.
func figures(text string) int64 {
	n := int64(0)
	for i := range len(text) {
		if text[i] < '0' || text[i] > '9' {
			return -1
		}
		n = n*10 + int64(text[i]-'0')
	}
	return n
}
