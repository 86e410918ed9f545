package tests

import (
	"fmt"
	"math"
	"regexp"
	"slices"
	"strconv"
	"strings"
	"testing"
	"time"

	"loop.example/g00051/impl"
)

func TestArchiveNumbers(t *testing.T) {
	got := []int64{impl.MaxEntries, impl.MaxWanted, impl.RqWord, impl.RqValue, impl.RqRange, impl.RqMany}
	if want := []int64{300, 40, 1, 2, 3, 4}; !slices.Equal(got, want) {
		t.Error(got, "and not", want)
	}
}

func entryOf(param string, at, step, level, size int64) impl.Entry {
	return impl.Entry{Param: param, Time: at, Step: step, Level: level, Size: size}
}

// keyText is in the order of the keys, as a blank stands ahead of all letters.
func keyText(e impl.Entry) string {
	return fmt.Sprintf("%-4s %08d %03d %04d", e.Param, e.Time, e.Step, e.Level)
}

func rightEntry(e impl.Entry) bool {
	in := func(n, most int64) bool { return n >= 0 && n <= most }
	return regexp.MustCompile(`\A[a-z]{1,4}\z`).MatchString(e.Param) && in(e.Time, 52596000) && in(e.Step, 360) && in(e.Level, 1100) && in(e.Size, 1000000000)
}

func rightEntries() map[string]impl.Entry {
	right := map[string]impl.Entry{"mild": entryOf("t", 1440, 6, 500, 77), "all 0": entryOf("a", 0, 0, 0, 0), "all at their most": entryOf("zzzz", impl.MaxTime, 360, 1100, 1000000000)}
	for _, param := range []string{"a", "z", "az", "za", "abc", "aaaa", "zzzz", "wxyz", "to", "by"} {
		right["Param "+param] = entryOf(param, 1440, 6, 500, 77)
	}
	return right
}

func wrongParams() []string {
	return []string{"", "abcde", "zzzzz", "A", "Z", "T", "tU", "Tu", "abcD", "`", "{", "a`", "{z", "zzz{", "`aaa", "é", "aé", "ab é", " ", "a ", " a", "a b", "t1", "1", "0", "-", "_", "a/b", "a,b", "a=b", "\x00", "a\x00", "a\n", "\xff", strings.Repeat("a", 5000)}
}

func wrongEntries() map[string]impl.Entry {
	wrong := map[string]impl.Entry{"zero": {}}
	for _, param := range wrongParams() {
		wrong[fmt.Sprintf("Param %.20q", param)] = entryOf(param, 1440, 6, 500, 77)
	}
	for _, n := range []int64{-1, math.MinInt64, math.MaxInt64, 1 << 32, -1 << 32} {
		wrong[fmt.Sprint("Time ", n)] = entryOf("t", n, 6, 500, 77)
		wrong[fmt.Sprint("Step ", n)] = entryOf("t", 1440, n, 500, 77)
		wrong[fmt.Sprint("Level ", n)] = entryOf("t", 1440, 6, n, 77)
		wrong[fmt.Sprint("Size ", n)] = entryOf("t", 1440, 6, 500, n)
	}
	wrong["Time above"] = entryOf("t", impl.MaxTime+1, 6, 500, 77)
	wrong["Step above"] = entryOf("t", 1440, 361, 500, 77)
	wrong["Level above"] = entryOf("t", 1440, 6, 1101, 77)
	wrong["Size above"] = entryOf("t", 1440, 6, 500, 1000000001)
	return wrong
}

func TestEntriesAtTheirEdges(t *testing.T) {
	for name, e := range rightEntries() {
		got, ok := impl.Store(nil, e)
		if !rightEntry(e) || !ok || !slices.Equal(got, []impl.Entry{e}) {
			t.Errorf("%s: Store: %v, %v", name, got, ok)
		}
		if got := impl.Pick([]impl.Entry{e}, impl.Request{}); !slices.Equal(got, []impl.Entry{e}) {
			t.Errorf("%s: Pick: %v", name, got)
		}
		if got, ok := impl.Deal([]impl.Entry{e}, impl.MaxClock, 1); !ok || !slices.Equal(got, []int64{0}) {
			t.Errorf("%s: Deal: %v, %v", name, got, ok)
		}
	}
	for name, e := range wrongEntries() {
		for _, archive := range [][]impl.Entry{nil, {}, {entryOf("a", 0, 0, 0, 0)}, manyEntries(300)} {
			if got, ok := impl.Store(archive, e); rightEntry(e) || ok || len(got) != 0 {
				t.Errorf("%s: Store: %v, %v", name, got, ok)
			}
		}
		refusesArchive(t, name, []impl.Entry{e})
		if got, ok := impl.Deal([]impl.Entry{e}, impl.MaxClock, 1); ok || len(got) != 0 {
			t.Errorf("%s: Deal: %v, %v", name, got, ok)
		}
	}
}

// manyEntries are an archive in which each part of the key makes a difference somewhere.
func manyEntries(count int) []impl.Entry {
	var list []impl.Entry
	for i := range int64(count) {
		list = append(list, entryOf([]string{"a", "aa", "ab", "b", "zz", "zzzz"}[i/60], 100*(i/20%3), 6*(i/5%4), 200*(i%5), i))
	}
	return list
}

func refusesArchive(t *testing.T, name string, archive []impl.Entry) {
	t.Helper()
	for _, e := range append(slices.Clone(archive[:1]), entryOf("t", 1440, 6, 500, 77), entryOf("a", 0, 0, 0, 0), entryOf("zzzz", impl.MaxTime, 360, 1100, 1)) {
		if got, ok := impl.Store(archive, e); ok || len(got) != 0 {
			t.Errorf("%s: Store of %v: %d entries, %v", name, e, len(got), ok)
		}
	}
	for _, r := range []impl.Request{{}, {Params: []string{"a"}}, {Levels: []int64{0, 500}}} {
		if got := impl.Pick(archive, r); len(got) != 0 {
			t.Errorf("%s: Pick by %v: %d entries", name, r, len(got))
		}
	}
}

func wrongArchives() map[string][]impl.Entry {
	e := entryOf("m", 1440, 6, 500, 77)
	bigger := e
	bigger.Size++
	wrong := map[string][]impl.Entry{
		"301": manyEntries(301), "5000": times(5000, e), "one twice": {e, e}, "its key twice": {e, bigger}, "its key twice, the lesser behind": {bigger, e}, "twice at the end": {entryOf("a", 0, 0, 0, 0), e, e}, "twice, not side by side": {e, entryOf("n", 0, 0, 0, 0), e},
		"by Param": {e, entryOf("l", 9999, 9, 999, 9)}, "by a longer Param": {entryOf("ma", 1440, 6, 500, 77), e}, "by Time": {e, entryOf("m", 1439, 9, 999, 9)}, "by Step": {e, entryOf("m", 1440, 5, 999, 9)}, "by Level": {e, entryOf("m", 1440, 6, 499, 99)}, "by letters as numbers": {entryOf("b", 1, 1, 1, 1), entryOf("aa", 1, 1, 1, 1)},
	}
	for _, at := range []int{0, 1, 150, 298} {
		swapped := manyEntries(300)
		swapped[at], swapped[at+1] = swapped[at+1], swapped[at]
		wrong[fmt.Sprint("swapped at ", at)] = swapped
		doubled := manyEntries(300)
		doubled[at+1] = doubled[at]
		wrong[fmt.Sprint("twice at ", at)] = doubled
	}
	for _, at := range []int{0, 1, 150, 299} {
		for name, edit := range map[string]func(e *impl.Entry){
			"zero": func(e *impl.Entry) { *e = impl.Entry{} }, "Param": func(e *impl.Entry) { e.Param += "`" }, "Time": func(e *impl.Entry) { e.Time = -1 }, "Step": func(e *impl.Entry) { e.Step = 361 }, "Level": func(e *impl.Entry) { e.Level = 1101 }, "Size": func(e *impl.Entry) { e.Size = -1 },
		} {
			list := manyEntries(300)
			edit(&list[at])
			wrong[fmt.Sprint(name, " at ", at)] = list
		}
	}
	return wrong
}

func TestArchivesThatAreNone(t *testing.T) {
	for name, archive := range wrongArchives() {
		refusesArchive(t, name, archive)
	}
}

// storeBySteps puts all under their keys and sorts these.
func storeBySteps(archive []impl.Entry, e impl.Entry) []impl.Entry {
	kept := map[string]impl.Entry{}
	for _, one := range append(slices.Clone(archive), e) {
		kept[keyText(one)] = one
	}
	return sortedByKey(kept)
}

func sortedByKey(kept map[string]impl.Entry) []impl.Entry {
	var keys []string
	for key := range kept {
		keys = append(keys, key)
	}
	slices.Sort(keys)
	var list []impl.Entry
	for _, key := range keys {
		list = append(list, kept[key])
	}
	return list
}

func stores(t *testing.T, archive []impl.Entry, e impl.Entry) []impl.Entry {
	t.Helper()
	got, ok := impl.Store(archive, e)
	if want := storeBySteps(archive, e); !ok || !slices.Equal(got, want) {
		t.Fatalf("Store of %v in %d: %v, %v and not %v", e, len(archive), got, ok, want)
	}
	return got
}

func TestStoreInEachPlace(t *testing.T) {
	for _, count := range []int{0, 1, 2, 3, 59, 60, 299, 300} {
		archive := manyEntries(count)
		if got := impl.Pick(archive, impl.Request{}); !slices.Equal(got, archive) {
			t.Fatalf("%d are no archive", count)
		}
		for _, e := range archive {
			e.Size += 1000
			stores(t, archive, e)
		}
		besides := []impl.Entry{entryOf("a", 0, 0, 1, 5), entryOf("zzzz", impl.MaxTime, 360, 1100, 5)}
		for _, e := range archive {
			e.Level++
			besides = append(besides, e)
			e.Level, e.Step = 0, e.Step+1
			besides = append(besides, e)
			e.Step, e.Time = 0, e.Time+1
			besides = append(besides, e)
			e.Time, e.Param = 0, e.Param[:1]+"q"
			besides = append(besides, e)
		}
		for _, e := range besides {
			if count < 300 {
				stores(t, archive, e)
			} else if got, ok := impl.Store(archive, e); ok || len(got) != 0 {
				t.Fatalf("Store of %v in a full archive: %d, %v", e, len(got), ok)
			}
		}
	}
	// As by hand: ahead of all, between, behind all, in the place of another.
	a, b, c := entryOf("t", 10, 6, 500, 1), entryOf("t", 10, 6, 850, 2), entryOf("t", 10, 12, 0, 3)
	for _, k := range []struct {
		archive []impl.Entry
		e       impl.Entry
		want    []impl.Entry
	}{
		{nil, a, []impl.Entry{a}}, {[]impl.Entry{b, c}, a, []impl.Entry{a, b, c}}, {[]impl.Entry{a, c}, b, []impl.Entry{a, b, c}}, {[]impl.Entry{a, b}, c, []impl.Entry{a, b, c}}, {[]impl.Entry{a, b, c}, entryOf("t", 10, 6, 850, 0), []impl.Entry{a, entryOf("t", 10, 6, 850, 0), c}}, {[]impl.Entry{a, b, c}, b, []impl.Entry{a, b, c}},
	} {
		if got, ok := impl.Store(k.archive, k.e); !ok || !slices.Equal(got, k.want) {
			t.Errorf("Store(%v, %v) = %v, %v", k.archive, k.e, got, ok)
		}
	}
}

func keyOf(e impl.Entry) impl.Request {
	return impl.Request{Params: []string{e.Param}, Times: []int64{e.Time}, Steps: []int64{e.Step}, Levels: []int64{e.Level}}
}

func stored(t *testing.T, list []impl.Entry) []impl.Entry {
	t.Helper()
	var archive []impl.Entry
	for _, e := range list {
		next, ok := impl.Store(archive, e)
		if !ok {
			t.Fatalf("%v is not stored among %d", e, len(archive))
		}
		archive = next
	}
	return archive
}

// Promise 25: what is stored is found by its key.
func findsAll(t *testing.T, archive []impl.Entry, list []impl.Entry) {
	t.Helper()
	last := map[string]impl.Entry{}
	for _, e := range list {
		last[keyText(e)] = e
	}
	for _, e := range last {
		if got := impl.Pick(archive, keyOf(e)); !slices.Equal(got, []impl.Entry{e}) {
			t.Fatalf("%v is found as %v", e, got)
		}
		absent := keyOf(e)
		absent.Levels = []int64{e.Level + 17}
		if _, there := last[keyText(entryOf(e.Param, e.Time, e.Step, e.Level+17, 0))]; !there && len(impl.Pick(archive, absent)) != 0 {
			t.Fatalf("what was never stored is found as %v", impl.Pick(archive, absent))
		}
	}
	if !slices.Equal(archive, sortedByKey(last)) {
		t.Fatalf("the archive is %v", archive)
	}
}

// allOrders has each order of a list.
func allOrders[T any](list []T) [][]T {
	if len(list) == 0 {
		return [][]T{nil}
	}
	var orders [][]T
	for i := range list {
		for _, rest := range allOrders(slices.Delete(slices.Clone(list), i, i+1)) {
			orders = append(orders, append([]T{list[i]}, rest...))
		}
	}
	return orders
}

// Promise 25: whatever the order.
func TestStoredInAnyOrder(t *testing.T) {
	few := []impl.Entry{entryOf("t", 10, 6, 500, 1), entryOf("t", 10, 6, 850, 2), entryOf("t", 10, 12, 0, 3), entryOf("t", 9, 360, 1000, 4), entryOf("ta", 0, 0, 0, 5), entryOf("s", 11, 1, 2, 6)}
	first := stored(t, few)
	for _, order := range allOrders(few) {
		archive := stored(t, order)
		if !slices.Equal(archive, first) {
			t.Fatalf("in the order %v: %v", order, archive)
		}
		findsAll(t, archive, order)
	}
	d := dice(2501)
	for range 200 {
		var list []impl.Entry
		for range d.below(80) {
			list = append(list, rolledEntry(&d))
		}
		archive := stored(t, list)
		findsAll(t, archive, list)
		var single []impl.Entry
		for _, e := range shuffled(&d, archive) {
			single = stores(t, single, e)
		}
		if !slices.Equal(single, archive) {
			t.Fatalf("in another order: %v and not %v", single, archive)
		}
	}
	full := manyEntries(300)
	if got := stored(t, shuffled(&d, full)); !slices.Equal(got, full) {
		t.Error("a full archive in another order is another one")
	}
}

// rolledEntry has few keys, so that some come twice.
func rolledEntry(d *dice) impl.Entry {
	param := []string{"t", "u", "tt", "ab", "abcd", "b", "z"}[d.below(7)]
	return entryOf(param, []int64{0, 1, 1440, impl.MaxTime}[d.below(4)], []int64{0, 6, 12, 360}[d.below(4)], []int64{0, 500, 850, 1100}[d.below(4)], d.below(30))
}

func sameRequest(a, b impl.Request) bool {
	return slices.Equal(a.Params, b.Params) && slices.Equal(a.Times, b.Times) && slices.Equal(a.Steps, b.Steps) && slices.Equal(a.Levels, b.Levels)
}

// words has so many Params, rising.
func words(count int) []string {
	var list []string
	for i := range count {
		list = append(list, string([]byte{'a' + byte(i/20), 'a' + byte(i%20)}))
	}
	return list
}

func rightRequests() map[string]impl.Request {
	return map[string]impl.Request{
		"nothing": {}, "empty lists": {Params: []string{}, Times: []int64{}, Steps: []int64{}, Levels: []int64{}}, "one of each": keyOf(entryOf("t", 1440, 6, 500, 0)), "Params": {Params: []string{"t"}}, "Times": {Times: []int64{1440}}, "Steps": {Steps: []int64{6}}, "Levels": {Levels: []int64{500}},
		"40 of each": {Params: words(40), Times: riseFrom(impl.MaxTime-39, 40), Steps: riseFrom(321, 40), Levels: riseFrom(1061, 40)}, "39 of each": {Params: words(39), Times: riseFrom(0, 39), Steps: riseFrom(0, 39), Levels: riseFrom(0, 39)},
		"the ends": {Params: []string{"a", "zzzz"}, Times: []int64{0, impl.MaxTime}, Steps: []int64{0, 360}, Levels: []int64{0, 1100}}, "byte by byte": {Params: []string{"a", "aa", "aab", "ab", "b", "ba", "z", "za"}}, "words of ranges": {Params: []string{"by", "to"}}, "Params and Levels": {Params: []string{"t"}, Levels: []int64{0}}, "Times and Steps": {Times: []int64{0}, Steps: []int64{0}},
	}
}

func wrongRequests() map[string]impl.Request {
	wrong := map[string]impl.Request{"Params that fall": {Params: []string{"b", "a"}}, "a longer one ahead": {Params: []string{"aa", "a"}}, "as if by length": {Params: []string{"b", "aa"}}, "a Param twice": {Params: []string{"a", "a"}}, "twice at the end": {Params: []string{"a", "b", "b"}}, "41 Params": {Params: words(41)}}
	for _, param := range wrongParams() {
		wrong[fmt.Sprintf("Param %.20q", param)] = impl.Request{Params: []string{param}}
		wrong[fmt.Sprintf("Params a and %.20q", param)] = impl.Request{Params: []string{"a", param}}
		wrong[fmt.Sprintf("Params %.20q and zzzz", param)] = impl.Request{Params: []string{param, "zzzz"}}
	}
	for name, list := range map[string][]int64{"41": riseFrom(0, 41), "400": riseFrom(0, 400), "falls": {6, 5}, "falls at the end": {1, 2, 6, 5}, "twice": {6, 6}, "twice at the end": {5, 6, 6}, "twice at the ends": {0, 6, 0}, "-1": {-1}, "-1 and more": {-1, 0, 1}, "least": {math.MinInt64}, "most": {math.MaxInt64}, "0 and most": {0, math.MaxInt64}} {
		wrong["Times "+name] = impl.Request{Times: list}
		wrong["Steps "+name] = impl.Request{Steps: list}
		wrong["Levels "+name] = impl.Request{Levels: list}
		wrong["Levels behind others "+name] = impl.Request{Params: []string{"t"}, Times: []int64{1}, Steps: []int64{0}, Levels: list}
	}
	wrong["a Time above"] = impl.Request{Times: []int64{0, impl.MaxTime + 1}}
	wrong["a Step above"] = impl.Request{Steps: []int64{0, 361}}
	wrong["a Level above"] = impl.Request{Levels: []int64{0, 1101}}
	return wrong
}

func stampBySteps(at int64) string {
	return calendar(at).Format("2006-01-02T15:04Z")
}

// requestInText writes all lists and takes the empty ones out again.
func requestInText(r impl.Request) string {
	var stamps []string
	for _, at := range r.Times {
		stamps = append(stamps, stampBySteps(at))
	}
	numbers := func(list []int64) string {
		return strings.ReplaceAll(strings.Trim(fmt.Sprint(list), "[]"), " ", "/")
	}
	text := ",param=" + strings.Join(r.Params, "/") + ",time=" + strings.Join(stamps, "/") + ",step=" + numbers(r.Steps) + ",level=" + numbers(r.Levels) + ","
	for _, word := range []string{"param", "time", "step", "level"} {
		text = strings.Replace(text, ","+word+"=,", ",", 1)
	}
	return strings.Trim(text, ",")
}

// Promise 25: a request is read back from its text.
func keepsTwentyFive(t *testing.T, r impl.Request) string {
	t.Helper()
	text := impl.RequestText(r)
	if want := requestInText(r); text != want {
		t.Fatalf("RequestText(%v) = %q and not %q", r, text, want)
	}
	got, code := impl.ReadRequest(text)
	if text == "" {
		if code != impl.RqWord || !sameRequest(got, impl.Request{}) {
			t.Fatalf("nothing is read as %v, %d", got, code)
		}
	} else if code != 0 || !sameRequest(got, r) {
		t.Fatalf("ReadRequest(%q) = %v, %d and not %v", text, got, code, r)
	}
	return text
}

func TestRequestTexts(t *testing.T) {
	for _, c := range []struct {
		r    impl.Request
		want string
	}{
		{impl.Request{}, ""}, {impl.Request{Params: []string{}}, ""}, {impl.Request{Params: []string{"t"}}, "param=t"}, {impl.Request{Params: []string{"t", "u"}}, "param=t/u"}, {impl.Request{Times: []int64{0}}, "time=2000-01-01T00:00Z"}, {impl.Request{Times: []int64{1440, impl.MaxTime}}, "time=2000-01-02T00:00Z/2100-01-01T00:00Z"}, {impl.Request{Steps: []int64{0}}, "step=0"}, {impl.Request{Steps: []int64{0, 6, 360}}, "step=0/6/360"}, {impl.Request{Levels: []int64{0, 1100}}, "level=0/1100"},
		{keyOf(entryOf("abcd", 14130000, 12, 850, 5)), "param=abcd,time=2026-11-12T12:00Z,step=12,level=850"}, {impl.Request{Params: []string{"t"}, Levels: []int64{500}}, "param=t,level=500"}, {impl.Request{Times: []int64{1}, Levels: []int64{500}}, "time=2000-01-01T00:01Z,level=500"}, {impl.Request{Params: []string{"by", "to"}, Steps: []int64{1, 2, 3}}, "param=by/to,step=1/2/3"},
	} {
		if got := impl.RequestText(c.r); got != c.want {
			t.Errorf("RequestText(%v) = %q and not %q", c.r, got, c.want)
		}
	}
	for name, r := range rightRequests() {
		if text := keepsTwentyFive(t, r); (text == "") != (len(r.Params)+len(r.Times)+len(r.Steps)+len(r.Levels) == 0) {
			t.Errorf("%s: %q", name, text)
		}
	}
	for name, r := range wrongRequests() {
		if got := impl.RequestText(r); got != "" {
			t.Errorf("%s: %.60q", name, got)
		}
		for _, archive := range [][]impl.Entry{nil, {entryOf("a", 0, 0, 0, 0)}, manyEntries(300)} {
			if got := impl.Pick(archive, r); len(got) != 0 {
				t.Errorf("%s: Pick: %v", name, got)
			}
		}
	}
	d := dice(2502)
	for range 3000 {
		keepsTwentyFive(t, rolledRequest(&d))
	}
}

// rolledList rises, and has at most 40 of those up to most.
func rolledList(d *dice, most int64) []int64 {
	count := []int64{0, 0, 1, 2, 3, 40, d.below(41)}[d.below(7)]
	var list []int64
	for range count {
		list = append(list, []int64{d.below(most + 1), d.below(60), most - d.below(50)}[d.below(3)])
	}
	slices.Sort(list)
	return slices.Compact(list)
}

func rolledRequest(d *dice) impl.Request {
	var params []string
	for range []int64{0, 0, 1, 2, 3, d.below(41)}[d.below(6)] {
		param := make([]byte, 1+d.below(4))
		for i := range param {
			param[i] = "abtuz"[d.below(5)]
		}
		params = append(params, string(param))
	}
	slices.Sort(params)
	return impl.Request{Params: slices.Compact(params), Times: rolledList(d, impl.MaxTime), Steps: rolledList(d, 360), Levels: rolledList(d, 1100)}
}

func TestRequestsByHand(t *testing.T) {
	for text, want := range map[string]impl.Request{
		"param=t": {Params: []string{"t"}}, "param=u/t/u": {Params: []string{"t", "u"}}, "param=abcd/abc/ab/a": {Params: []string{"a", "ab", "abc", "abcd"}}, "param=a/to/c": {Params: []string{"a", "c", "to"}}, "param=to": {Params: []string{"to"}}, "param=a/to/c/by/b": {Params: []string{"a", "b", "by", "c", "to"}}, "param=to/by/step/time": {Params: []string{"by", "step", "time", "to"}},
		"time=2000-01-02T00:00Z": {Times: []int64{1440}}, "time=2000-01-02T00:00Z/2000-01-01T00:00Z/2000-01-02T00:00Z": {Times: []int64{0, 1440}}, "time=2100-01-01T00:00Z": {Times: []int64{impl.MaxTime}}, "time=2000-02-29T23:59Z": {Times: []int64{60*1440 - 1}},
		"step=0": {Steps: []int64{0}}, "step=360/0": {Steps: []int64{0, 360}}, "step=12/6/12/0/6": {Steps: []int64{0, 6, 12}}, "level=1100/0": {Levels: []int64{0, 1100}},
		"step=0/to/3": {Steps: []int64{0, 1, 2, 3}}, "step=0/to/12/by/6": {Steps: []int64{0, 6, 12}}, "step=0/to/11/by/6": {Steps: []int64{0, 6}}, "step=0/to/5/by/6": {Steps: []int64{0}}, "step=1/to/13/by/6": {Steps: []int64{1, 7, 13}}, "step=5/to/5": {Steps: []int64{5}}, "step=5/to/5/by/360": {Steps: []int64{5}}, "step=360/to/360/by/1": {Steps: []int64{360}}, "step=0/to/0": {Steps: []int64{0}}, "step=0/to/360/by/360": {Steps: []int64{0, 360}}, "step=0/to/360/by/180": {Steps: []int64{0, 180, 360}},
		"level=0/to/1100/by/550": {Levels: []int64{0, 550, 1100}}, "level=0/to/1100/by/1100": {Levels: []int64{0, 1100}}, "level=850/500/to/502": {Levels: []int64{500, 501, 502, 850}}, "step=0/to/2/6/to/8": {Steps: []int64{0, 1, 2, 6, 7, 8}}, "step=0/to/4/by/2/1/to/5/by/2": {Steps: []int64{0, 1, 2, 3, 4, 5}}, "step=4/to/6/5/to/7": {Steps: []int64{4, 5, 6, 7}}, "step=9/0/to/2/by/2/3": {Steps: []int64{0, 2, 3, 9}}, "step=7/1/to/2": {Steps: []int64{1, 2, 7}},
		"level=5,param=t,step=0/to/1,time=2000-01-01T00:01Z": {Params: []string{"t"}, Times: []int64{1}, Steps: []int64{0, 1}, Levels: []int64{5}}, "step=1,level=1": {Steps: []int64{1}, Levels: []int64{1}},
		"level=0/to/39": {Levels: riseFrom(0, 40)}, "level=1061/to/1100": {Levels: riseFrom(1061, 40)}, "step=0/to/78/by/2": {Steps: []int64{0, 2, 4, 6, 8, 10, 12, 14, 16, 18, 20, 22, 24, 26, 28, 30, 32, 34, 36, 38, 40, 42, 44, 46, 48, 50, 52, 54, 56, 58, 60, 62, 64, 66, 68, 70, 72, 74, 76, 78}}, "level=0/to/39/0/to/39/7": {Levels: riseFrom(0, 40)}, "level=0/to/19/10/to/39": {Levels: riseFrom(0, 40)},
	} {
		got, code := impl.ReadRequest(text)
		if code != 0 || !sameRequest(got, want) {
			t.Errorf("ReadRequest(%q) = %v, %d and not %v", text, got, code, want)
		}
		requestIs(t, text)
	}
}

func TestRequestsThatAreNone(t *testing.T) {
	const stamp = "2000-01-02T00:00Z"
	for code, texts := range map[int64][]string{
		impl.RqWord: {
			"", " ", "   ", ",", ",,", "=", "=t", "t", "param", "step", "paramt", "x=1", "Param=t", "PARAM=t", "STEP=1", "Time=" + stamp, "params=t", "para=t", " param=t", "param =t", "\tparam=t", "param\n=t", "date=" + stamp, "key=t", "size=1", "to=1", "by=1", "paramtime=t", "param/t", "step:1",
			"param=t,", ",param=t", "param=t,,step=1", "param=t,step", "param=t, step=1", "param=t,param=t", "param=t,param=u", "step=1,step=1", "step=1,step=2", "level=1,step=1,level=1", "time=" + stamp + ",param=t,time=" + stamp, "step=1,level", "step=1,level,x=1",
			// A fault ahead of others.
			"x=1,step=361", "x,step=", ",step=361", "step=1,step=361", "step=1,step=5/to/1", "step=1,step=0/to/40", "param=t,param=T", "x=5/to/1", "x=0/to/400", "Step=361",
		},
		impl.RqValue: {
			"param=", "param=/", "param=t/", "param=/t", "param=t//u", "param=T", "param=abcde", "param=a b", "param= t", "param=t ", "param=t1", "param=`", "param={", "param=z{", "param=a=b", "param==a", "param=é", "param=\x00", "param=t/T", "param=T/t",
			"time=", "time=2000-01-02", "time=" + stamp + "/", "time=/" + stamp, "time=" + stamp + "//" + stamp, "time=" + stamp + " ", "time=1999-12-31T23:59Z", "time=2100-01-01T00:01Z", "time=2001-02-29T00:00Z", "time=2000-01-02T24:00Z", "time=2000-01-02t00:00z", "time=1440", "time=0", "time=" + stamp + "/to/" + stamp, "time=" + stamp + "/to/2000-01-03T00:00Z/by/1", "time=to", "time==" + stamp,
			"step=", "step=/", "step=1/", "step=/1", "step=1//2", "step=361", "step=-1", "step=+1", "step=-0", "step=01", "step=00", "step=007", "step=1.0", "step=1e1", "step=0x1", "step=1_0", "step= 1", "step=1 ", "step=x", "step=1/x", "step=x/1", "step=9223372036854775808", "step=18446744073709551617", "step=99999999999999999999999999", "step==1", "step=1=1", "step=1=", "step=" + stamp, "step=t", "step=\uff11",
			"level=1101", "level=-1", "level=01100", "level=4294967296", "level=1101/0", "level=0/1101",
			"step=to", "step=by", "step=to/1", "step=by/1", "step=to/to", "step=1/to", "step=1/to/", "step=1/to/x", "step=1/to/361", "step=1/to/-1", "step=1/to/05", "step=1/to/to", "step=1/to/to/5", "step=1/to/by", "step=1/to/by/2", "step=1/by", "step=1/by/2", "step=1/by/2/to/5", "step=1/to/5/by", "step=1/to/5/by/", "step=1/to/5/by/x", "step=1/to/5/by/361", "step=1/to/5/by/-1", "step=1/to/5/by/01", "step=1/to/5/by/by", "step=1/to/5/by/to", "step=1/to/5/by/2/by", "step=1/to/5/by/2/by/2", "step=1/to/5/by/2/to/9", "step=1/to/5/to/9", "step=1/to/5/to", "step=0/to/5//by/2", "step=1/To/5", "step=1/TO/5", "step=1/to/5/By/2", "step=1/ to/5", "step=1/to /5", "step=1/2/by/3", "step=1-5", "level=0/to/1101", "level=0/to/5/by/1101",
			// A fault ahead of others.
			"step=361,x", "step=x,step=1", "step=x/5/to/1", "step=x/0/to/40", "param=T,x=1", "param=t,step=361,param=t", "step=1/to/x/5/to/1", "step=5/to/1/by/x", "step=5/to/1/by/361", "step=5/to/1/by", "step=5/to/1/by/", "step=5/to/1/by/by/0", "step=5/to/361", "step=x,level=0/to/40",
			// Too many are told last of their list.
			"level=0/to/40/x", "level=0/to/1100/1101", "level=0/to/40/to", "level=0/to/40/", "param=" + strings.Join(words(41), "/") + "/T",
		},
		impl.RqRange: {
			"step=6/to/5", "step=1/to/0", "step=360/to/0", "step=360/to/359", "step=6/to/5/by/1", "step=6/to/5/by/0", "step=1/to/5/by/0", "step=5/to/5/by/0", "step=0/to/0/by/0", "step=0/to/360/by/0", "level=1100/to/1099", "level=500/to/0/by/100", "level=0/to/1100/by/0", "step=1/2/6/to/5", "step=0/to/5/6/to/5", "param=t,step=6/to/5",
			// A fault ahead of others.
			"step=6/to/5/x", "step=6/to/5/to/7", "step=6/to/5/", "step=6/to/5/361", "step=1/to/5/by/0/x", "step=1/to/5/by/0/by/1", "step=6/to/5/by/2/x", "step=6/to/5,x", "step=6/to/5,step=1", "step=6/to/5,level=361/x", "level=6/to/5/0/to/40", "level=0/to/40/6/to/5", "level=0/to/1100/1/to/5/by/0", "step=6/to/5,level=0/to/40", "step=6/to/5/6/to/x",
		},
		impl.RqMany: {
			"level=0/to/40", "level=0/to/1100", "step=0/to/360", "step=0/to/80/by/2", "level=0/to/39/40", "level=0/to/39/500", "level=500/0/to/39", "level=0/to/19/30/to/50", "level=0/to/19/19/to/40", "level=0/to/40/by/1", "param=" + strings.Join(words(41), "/"), "step=" + requestInText(impl.Request{Steps: riseFrom(0, 41)})[5:], "level=" + strings.Repeat("0/to/1100/", 100) + "7", "time=" + requestInText(impl.Request{Times: riseFrom(0, 41)})[5:],
			// A fault ahead of others.
			"level=0/to/40,x", "level=0/to/40,level=1", "level=0/to/40,step=361", "level=0/to/40,step=6/to/5", "step=1,level=0/to/40,", "level=0/to/40,",
		},
	} {
		for _, text := range texts {
			if got, c := impl.ReadRequest(text); c != code || !sameRequest(got, impl.Request{}) {
				t.Errorf("ReadRequest(%.60q) = %v, %d and not %d", text, got, c, code)
			}
			requestIs(t, text)
		}
	}
}

// wanting is where a reader of numbers stands: what came last.
type wanting int

const (
	atStart wanting = iota
	behindNumber
	behindTo
	behindLast
	behindBy
)

// numbersInPieces goes from piece to piece, and asks all numbers of a range whether they are in it.
func numbersInPieces(pieces []string, most int64) (map[int64]bool, int64) {
	set := map[int64]bool{}
	var first, last, by int64
	closes := func() bool {
		for n := range most + 1 {
			if by > 0 && n >= first && n <= last && (n-first)%by == 0 {
				set[n] = true
			}
		}
		return last >= first && by > 0
	}
	state := atStart
	for at, piece := range pieces {
		n, ok := decimals()[piece]
		ok = ok && n <= most
		following := ""
		if at+1 < len(pieces) {
			following = pieces[at+1]
		}
		switch {
		case state == atStart && ok:
			first, last, by, state = n, n, 1, behindNumber
		case state == behindNumber && piece == "to":
			state = behindTo
			continue
		case state == behindTo && ok:
			last, state = n, behindLast
		case state == behindLast && piece == "by":
			state = behindBy
			continue
		case state == behindBy && ok:
			by, state = n, atStart
		default:
			return nil, 2
		}
		if state == behindNumber && following == "to" || state == behindLast && following == "by" {
			continue
		}
		if state = atStart; !closes() {
			return nil, 3
		}
	}
	if state != atStart {
		return nil, 2
	}
	return set, 0
}

var decimalTexts map[string]int64

// decimals are the texts of all numbers that may stand anywhere in a request.
func decimals() map[string]int64 {
	if decimalTexts == nil {
		decimalTexts = map[string]int64{}
		for n := range int64(1101) {
			decimalTexts[strconv.Itoa(int(n))] = n
		}
	}
	return decimalTexts
}

func timesInPieces(pieces []string) (map[int64]bool, int64) {
	set := map[int64]bool{}
	for _, piece := range pieces {
		at, err := time.Parse("2006-01-02T15:04Z", piece)
		n := int64(at.Sub(calendar(0)) / time.Minute)
		if err != nil || n < 0 || n > 52596000 || stampBySteps(n) != piece {
			return nil, 2
		}
		set[n] = true
	}
	return set, 0
}

func paramsInPieces(pieces []string) (map[string]bool, int64) {
	set := map[string]bool{}
	for _, piece := range pieces {
		if !rightEntry(entryOf(piece, 0, 0, 0, 0)) {
			return nil, 2
		}
		set[piece] = true
	}
	return set, 0
}

func risingOf[T int64 | string](set map[T]bool, code int64) ([]T, int64) {
	var list []T
	for thing := range set {
		list = append(list, thing)
	}
	slices.Sort(list)
	if code == 0 && len(list) > 40 {
		return nil, 4
	}
	return list, code
}

var listForm = regexp.MustCompile(`(?s)\A(param|time|step|level)=(.*)\z`)

// requestBySteps reads each list as a set.
func requestBySteps(text string) (impl.Request, int64) {
	var r impl.Request
	seen := map[string]bool{}
	for _, piece := range strings.Split(text, ",") {
		form := listForm.FindStringSubmatch(piece)
		if form == nil || seen[form[1]] || len(text) > 20000 {
			return impl.Request{}, 1
		}
		seen[form[1]] = true
		pieces, code := strings.Split(form[2], "/"), int64(0)
		switch form[1] {
		case "param":
			r.Params, code = risingOf(paramsInPieces(pieces))
		case "time":
			r.Times, code = risingOf(timesInPieces(pieces))
		case "step":
			r.Steps, code = risingOf(numbersInPieces(pieces, 360))
		case "level":
			r.Levels, code = risingOf(numbersInPieces(pieces, 1100))
		}
		if code != 0 {
			return impl.Request{}, code
		}
	}
	return r, 0
}

// requestIs holds ReadRequest against sets; what is read has a text, which is read as the same.
func requestIs(t *testing.T, text string) int64 {
	t.Helper()
	want, code := requestBySteps(text)
	got, c := impl.ReadRequest(text)
	if c != code || !sameRequest(got, want) {
		t.Fatalf("ReadRequest(%.200q) = %v, %d and not %v, %d", text, got, c, want, code)
	}
	if code == 0 {
		keepsTwentyFive(t, got)
	} else if _, c := impl.ReadRequest(text + ",x"); text != "" && c != code && len(text) < 19999 {
		t.Fatalf("ReadRequest(%.200q) = %d, but with more behind it %d", text, code, c)
	}
	return c
}

// All lists of a few pieces, as steps and as levels.
func TestAllShortLists(t *testing.T) {
	pieces := []string{"0", "2", "40", "to", "by", "x"}
	var codes [5]int
	lists := []string{""}
	for range 6 {
		var longer []string
		for _, list := range lists {
			for _, piece := range pieces {
				longer = append(longer, strings.TrimPrefix(list+"/"+piece, "/"))
			}
		}
		for _, list := range longer {
			codes[requestIs(t, "step="+list)]++
		}
		lists = longer
	}
	for _, list := range lists[:3000] {
		requestIs(t, "level="+list)
	}
	for code, count := range codes {
		if count < 30 && code != impl.RqWord {
			t.Error("only", count, "with code", code)
		}
	}
}

func rolledPieces(d *dice, word string) []string {
	var list []string
	numbers := []string{"0", "1", "2", "3", "5", "6", "7", "12", "24", "39", "40", "300", "360"}
	odd := []string{"", "x", "01", "-1", "+2", "361", "1100", "1101", "to", "by", "1.5", " 1", "T", "t", "abcde", "{", "2000-01-02T00:00Z", "2000-13-01T00:00Z", "9999999999999999999"}
	one := func(from []string) string {
		if d.below(40) == 0 {
			from = odd
		}
		return from[d.below(int64(len(from)))]
	}
	for range 1 + d.below(7) {
		switch word {
		case "param":
			list = append(list, one([]string{"t", "u", "tt", "abcd", "z", "to", "by"}))
		case "time":
			list = append(list, one([]string{"2000-01-01T00:00Z", "2000-01-02T00:00Z", "2026-11-12T12:00Z", "2100-01-01T00:00Z"}))
		default:
			list = append(list, one(numbers))
			if d.below(2) == 0 {
				list = append(list, one([]string{"to"}), one(numbers))
				if d.below(2) == 0 {
					list = append(list, one([]string{"by"}), one([]string{"1", "2", "6", "7", "60", "0"}))
				}
			}
		}
	}
	if d.below(25) == 0 {
		at := d.below(int64(len(list)))
		list = slices.Delete(list, int(at), int(at)+1)
	}
	return list
}

func rolledRequestText(d *dice) string {
	var lists []string
	for _, word := range shuffled(d, []string{"param", "time", "step", "level"})[:1+d.below(4)] {
		text := word + "=" + strings.Join(rolledPieces(d, word), "/")
		switch d.below(40) {
		case 0:
			text = strings.ToUpper(text)
		case 1:
			text = strings.Replace(text, "=", "", 1)
		case 2:
			text = word + text
		case 3:
			text += "," + text
		case 4:
			text += ","
		case 5:
			text = strings.Replace(text, "=", "==", 1)
		}
		lists = append(lists, text)
	}
	return strings.Join(lists, ",")
}

func TestRolledRequestTexts(t *testing.T) {
	d := dice(2503)
	var codes [5]int
	for range 20000 {
		codes[requestIs(t, rolledRequestText(&d))]++
	}
	for code, count := range codes {
		if count < 500 {
			t.Error("only", count, "with code", code)
		}
	}
	// Texts that are spoilt piece by piece.
	for _, text := range []string{"param=t/u,step=0/to/12/by/6", "level=5/to/7,time=2000-01-02T00:00Z"} {
		for _, spoilt := range append(spoiltTexts(text), text) {
			requestIs(t, spoilt)
		}
	}
}

func TestLongRequests(t *testing.T) {
	full := "param=" + strings.Repeat("t/", 9996) + "tt"
	if len(full) != 20000 {
		t.Fatal(len(full))
	}
	want := impl.Request{Params: []string{"t", "tt"}}
	if got, code := impl.ReadRequest(full); code != 0 || !sameRequest(got, want) {
		t.Error(got, code)
	}
	for _, text := range []string{full + "t", strings.Replace(full, "/t/", "/tt/", 1), strings.Repeat("a", 20001), "step=" + strings.Repeat("1/", 10000) + "1", strings.Repeat(" ", 20001), "step=361" + strings.Repeat("1", 19993), strings.Repeat("step=1,", 9000)} {
		if got, code := impl.ReadRequest(text); len(text) < 20001 || code != impl.RqWord || !sameRequest(got, impl.Request{}) {
			t.Errorf("%d bytes: %v, %d", len(text), got, code)
		}
	}
	for _, text := range []string{"step=" + strings.Repeat("0/to/360/", 2221) + "1/2/3", "level=" + strings.Repeat("0/to/1100/by/1/", 1332), "level=" + strings.Repeat("0/to/39/", 2498) + "39", "step=" + strings.Repeat("1", 19995), strings.Repeat("x", 20000), "step=1" + strings.Repeat(",", 19994), strings.Repeat("/", 20000), strings.Repeat("=", 20000), strings.Repeat(" ", 20000)} {
		if len(text) > 20000 {
			t.Fatal(len(text))
		}
		requestIs(t, text)
	}
}

// pickBySteps looks each part of an entry up among the words of a list.
func pickBySteps(archive []impl.Entry, r impl.Request) []impl.Entry {
	asked := func(list any, of any) bool {
		inside := strings.Fields(strings.Trim(fmt.Sprint(list), "[]"))
		return len(inside) == 0 || slices.Contains(inside, fmt.Sprint(of))
	}
	var list []impl.Entry
	for _, e := range archive {
		if asked(r.Params, e.Param) && asked(r.Times, e.Time) && asked(r.Steps, e.Step) && asked(r.Levels, e.Level) {
			list = append(list, e)
		}
	}
	return list
}

func picks(t *testing.T, archive []impl.Entry, r impl.Request) int {
	t.Helper()
	got := impl.Pick(archive, r)
	if want := pickBySteps(archive, r); !slices.Equal(got, want) {
		t.Fatalf("Pick of %d by %v: %v and not %v", len(archive), r, got, want)
	}
	return len(got)
}

func TestPick(t *testing.T) {
	for _, r := range rightRequests() {
		for _, count := range []int{0, 1, 2, 60, 300} {
			picks(t, manyEntries(count), r)
		}
	}
	archive := manyEntries(300)
	for _, c := range []struct {
		r    impl.Request
		want int
	}{
		{impl.Request{}, 300}, {impl.Request{Params: []string{"a"}}, 60}, {impl.Request{Params: []string{"aa", "c", "zz"}}, 120}, {impl.Request{Times: []int64{100}}, 100}, {impl.Request{Steps: []int64{0, 18}}, 150}, {impl.Request{Levels: []int64{200}}, 60}, {impl.Request{Params: []string{"b"}, Times: []int64{0, 200}, Steps: []int64{6}, Levels: []int64{0, 400, 800}}, 6}, {impl.Request{Params: []string{"c"}}, 0}, {impl.Request{Times: []int64{1}}, 0}, {impl.Request{Steps: []int64{1}}, 0}, {impl.Request{Levels: []int64{1}}, 0}, {impl.Request{Params: []string{"a"}, Levels: []int64{1}}, 0}, {keyOf(archive[0]), 1}, {keyOf(archive[299]), 1}, {impl.Request{Params: []string{"aaaa"}}, 0}, {impl.Request{Params: []string{"z"}}, 0},
	} {
		if got := picks(t, archive, c.r); got != c.want {
			t.Errorf("Pick by %v has %d and not %d", c.r, got, c.want)
		}
	}
	d := dice(2504)
	found, none := 0, 0
	for range 2000 {
		var list []impl.Entry
		for range d.below(60) {
			list = append(list, rolledEntry(&d))
		}
		archive := stored(t, list)
		r := rolledRequest(&d)
		if len(archive) > 0 && d.below(4) > 0 {
			e := archive[d.below(int64(len(archive)))]
			key := keyOf(e)
			r = impl.Request{}
			for i, list := range []func(){func() { r.Params = key.Params }, func() { r.Times = key.Times }, func() { r.Steps = key.Steps }, func() { r.Levels = key.Levels }} {
				if d.below(2) == 0 || i == int(d.below(4)) {
					list()
				}
			}
		}
		if picks(t, archive, r) > 0 {
			found++
		} else {
			none++
		}
	}
	if found < 1000 || none < 200 {
		t.Error(found, "found something,", none, "nothing")
	}
}

// dealBySteps keeps what lies in each slot, and adds it up anew each time.
func dealBySteps(sizes []int64, budget, slots int64) []int64 {
	shelves := make([][]int64, slots)
	var list []int64
	for _, size := range sizes {
		place := int64(-1)
		for slot := range slots {
			total := size
			for _, lies := range shelves[slot] {
				total += lies
			}
			if total <= budget && place < 0 {
				place = slot
			}
		}
		if place >= 0 {
			shelves[place] = append(shelves[place], size)
		}
		list = append(list, place)
	}
	return list
}

func sized(sizes ...int64) []impl.Entry {
	var list []impl.Entry
	for _, size := range sizes {
		list = append(list, entryOf("t", 1440, 6, 500, size))
	}
	return list
}

// Promise 25: no slot is filled above its budget.
func deals(t *testing.T, budget, slots int64, sizes ...int64) []int64 {
	t.Helper()
	got, ok := impl.Deal(sized(sizes...), budget, slots)
	if want := dealBySteps(sizes, budget, slots); !ok || !slices.Equal(got, want) {
		t.Fatalf("Deal of %v by %d in %d: %v, %v and not %v", sizes, budget, slots, got, ok, want)
	}
	totals := map[int64]int64{}
	for i, slot := range got {
		if slot < -1 || slot >= slots {
			t.Fatalf("Deal of %v by %d in %d: slot %d", sizes, budget, slots, slot)
		}
		if totals[slot] += sizes[i]; slot >= 0 && totals[slot] > budget {
			t.Fatalf("Deal of %v by %d in %d: slot %d has %d", sizes, budget, slots, slot, totals[slot])
		}
	}
	return got
}

func TestDealByHand(t *testing.T) {
	const most = 1000000000
	for _, c := range []struct {
		budget, slots int64
		sizes, want   []int64
	}{
		{8, 2, nil, nil}, {8, 2, []int64{3, 4, 5}, []int64{0, 0, 1}}, {4, 2, []int64{3, 4, 5}, []int64{0, 1, -1}}, {7, 1, []int64{3, 4}, []int64{0, 0}}, {6, 1, []int64{3, 4}, []int64{0, -1}}, {7, 1, []int64{3, 4, 0, 1}, []int64{0, 0, 0, -1}}, {0, 1, []int64{0, 1, 0}, []int64{0, -1, 0}}, {0, 3, []int64{0, 0}, []int64{0, 0}},
		{10, 3, []int64{6, 6, 6, 6, 4, 4, 4, 4}, []int64{0, 1, 2, -1, 0, 1, 2, -1}}, {10, 2, []int64{9, 8, 3, 2, 1}, []int64{0, 1, -1, 1, 0}}, {10, 2, []int64{11, 10, 10, 1}, []int64{-1, 0, 1, -1}}, {10, 3, []int64{5, 6, 5, 4, 1}, []int64{0, 1, 0, 1, 2}}, {5, 100, []int64{6, 5, 5}, []int64{-1, 0, 1}},
		{impl.MaxClock, 1, []int64{most, most}, []int64{0, 0}}, {most, 1, []int64{most}, []int64{0}}, {most - 1, 1, []int64{most}, []int64{-1}}, {2*most - 1, 2, []int64{most, most}, []int64{0, 1}}, {2 * most, 2, []int64{most, most}, []int64{0, 0}}, {1, 100, []int64{2, 1, 1, 1}, []int64{-1, 0, 1, 2}},
	} {
		if got := deals(t, c.budget, c.slots, c.sizes...); !slices.Equal(got, c.want) {
			t.Errorf("Deal of %v by %d in %d: %v and not %v", c.sizes, c.budget, c.slots, got, c.want)
		}
	}
	// As many as may be, one in each of 100 slots, and all in one.
	if got := deals(t, 1, 100, times(300, int64(1))...); got[99] != 99 || got[100] != -1 || got[299] != -1 {
		t.Error(got)
	}
	if got := deals(t, 300*most, 1, times(300, int64(most))...); slices.Max(got) != 0 || slices.Min(got) != 0 {
		t.Error(got)
	}
	if got := deals(t, 300*most-1, 1, times(300, int64(most))...); got[298] != 0 || got[299] != -1 {
		t.Error(got)
	}
}

func TestDealRefuses(t *testing.T) {
	refuses := func(name string, entries []impl.Entry, budget, slots int64) {
		t.Helper()
		if got, ok := impl.Deal(entries, budget, slots); ok || len(got) != 0 {
			t.Errorf("%s: %v, %v", name, got, ok)
		}
	}
	for _, entries := range [][]impl.Entry{nil, sized(1, 2, 3), manyEntries(300)} {
		for _, budget := range []int64{-1, impl.MaxClock + 1, math.MinInt64, math.MaxInt64} {
			refuses(fmt.Sprint("budget ", budget), entries, budget, 2)
		}
		for _, slots := range []int64{0, -1, 101, 1000000, math.MinInt64, math.MaxInt64} {
			refuses(fmt.Sprint("slots ", slots), entries, 10, slots)
		}
		for _, budget := range []int64{0, 1, impl.MaxClock - 1, impl.MaxClock} {
			for _, slots := range []int64{1, 2, 99, 100} {
				if got, ok := impl.Deal(entries, budget, slots); !ok || len(got) != len(entries) {
					t.Errorf("budget %d, slots %d: %v, %v", budget, slots, got, ok)
				}
			}
		}
	}
	refuses("301", sized(times(301, int64(1))...), 10, 2)
	refuses("5000", sized(times(5000, int64(0))...), 10, 2)
	for name, e := range wrongEntries() {
		refuses(name, []impl.Entry{e}, 10, 2)
		refuses(name+" ahead", append([]impl.Entry{e}, sized(1, 2)...), 10, 2)
		refuses(name+" behind", append(sized(1, 2), e), 10, 2)
	}
	// What is no archive may be dealt: in any order, and some twice.
	for _, entries := range [][]impl.Entry{sized(3, 3), {entryOf("b", 9, 9, 9, 3), entryOf("a", 1, 1, 1, 3)}} {
		if got, ok := impl.Deal(entries, 3, 2); !ok || !slices.Equal(got, []int64{0, 1}) {
			t.Error(got, ok)
		}
	}
}

func TestRolledDeals(t *testing.T) {
	d := dice(2505)
	lost := 0
	for range 4000 {
		budget, slots := d.below(30), 1+d.below(6)
		sizes := make([]int64, d.below(25))
		for i := range sizes {
			sizes[i] = d.below(1 + []int64{5, 15, 40}[d.below(3)])
		}
		if slices.Contains(deals(t, budget, slots, sizes...), -1) {
			lost++
		}
	}
	if lost < 500 {
		t.Error("only", lost, "with one that has no slot")
	}
}
