package tests

import (
	"fmt"
	"maps"
	"math"
	"regexp"
	"slices"
	"sort"
	"strings"
	"testing"

	"loop.example/g00051/impl"
)

func TestRoutingNumbers(t *testing.T) {
	got := []int64{impl.MaxBody, impl.MaxRoutes, impl.MaxClock, impl.MaxSeen, impl.MaxTries, impl.Wait, impl.RtState, impl.RtForm, impl.RtTwice, impl.RtClash, impl.RtLate, impl.RtFull, impl.RtNobody}
	if want := []int64{2000, 60, 1000000000000, 200, 4, 30, 1, 2, 3, 4, 5, 6, 7}; !slices.Equal(got, want) {
		t.Error(got, "and not", want)
	}
}

func headOf(kind, mark string) impl.Heading {
	return impl.Heading{Kind: kind, Area: "DL", No: 1, Centre: "AMMC", Day: 15, Mark: mark}
}

func bulletinOf(kind, mark, body string) impl.Bulletin {
	return impl.Bulletin{Head: headOf(kind, mark), Body: body}
}

// numbered is a bulletin like any other, of a name of its own for each n.
func numbered(kind string, n int) impl.Bulletin {
	b := bulletinOf(kind, "", "body")
	b.Head.No, b.Head.Day = int64(n%100), int64(1+n/100)
	return b
}

func itemOf(seq, rank int64, head impl.Heading, tries, due int64) impl.Item {
	return impl.Item{Seq: seq, Rank: rank, Head: head, Tries: tries, Due: due}
}

func routeOf(kind string, sub int64) impl.Route {
	return impl.Route{Kind: kind, Sub: sub}
}

func sameQueue(a, b impl.Queue) bool {
	return a.Sub == b.Sub && a.Done == b.Done && a.Lost == b.Lost && slices.Equal(a.Items, b.Items)
}

func sameCentre(a, b impl.Centre) bool {
	return a.Now == b.Now && a.Next == b.Next && slices.Equal(a.Routes, b.Routes) && slices.Equal(a.Seen, b.Seen) && slices.EqualFunc(a.Queues, b.Queues, sameQueue)
}

func isZero(c impl.Centre) bool {
	return sameCentre(c, impl.Centre{})
}

func copyOf(c impl.Centre) impl.Centre {
	c.Routes, c.Seen, c.Queues = slices.Clone(c.Routes), slices.Clone(c.Seen), slices.Clone(c.Queues)
	for i := range c.Queues {
		c.Queues[i].Items = slices.Clone(c.Queues[i].Items)
	}
	return c
}

// busyCentre has three subscribers; of the second one's four items the second is on its way.
func busyCentre() impl.Centre {
	warning, report, mended, flight := headOf("WW", ""), headOf("SM", ""), headOf("SM", "CCB"), headOf("FT", "PAB")
	return impl.Centre{
		Routes: []impl.Route{routeOf("SM", 2), routeOf("WW", 7), routeOf("WW", 2), routeOf("FT", 2), routeOf("FT", 1000)},
		Now:    100,
		Next:   10,
		Seen:   []impl.Bulletin{{Head: report, Body: "one"}, {Head: mended, Body: "two"}, {Head: warning, Body: "storm"}, {Head: flight, Body: ""}},
		Queues: []impl.Queue{
			{Sub: 2, Items: []impl.Item{itemOf(5, 1, warning, 0, 0), itemOf(3, 2, report, 2, 110), itemOf(4, 2, mended, 0, 0), itemOf(2, 3, flight, 0, 0)}, Done: 5, Lost: 1},
			{Sub: 7, Items: []impl.Item{itemOf(5, 1, warning, 0, 0)}},
			{Sub: 1000, Done: 3},
		},
	}
}

func TestNewCentre(t *testing.T) {
	c, ok := impl.NewCentre([]impl.Route{routeOf("SM", 9), routeOf("WW", 3), routeOf("WW", 9), routeOf("AA", 1000), routeOf("ZZ", 1)})
	want := impl.Centre{Routes: []impl.Route{routeOf("SM", 9), routeOf("WW", 3), routeOf("WW", 9), routeOf("AA", 1000), routeOf("ZZ", 1)}, Next: 1, Queues: []impl.Queue{{Sub: 1}, {Sub: 3}, {Sub: 9}, {Sub: 1000}}}
	if !ok || !sameCentre(c, want) {
		t.Error(c, ok)
	}
	for _, routes := range [][]impl.Route{nil, {}} {
		if c, ok := impl.NewCentre(routes); !ok || !sameCentre(c, impl.Centre{Next: 1}) {
			t.Error("no routes", c, ok)
		}
	}
}

// manyRoutes are of one kind each two, and go to as many subscribers.
func manyRoutes(count int) []impl.Route {
	var routes []impl.Route
	for i := range count {
		routes = append(routes, routeOf(string(rune('A'+i/2%26))+"M", int64(1000-i)))
	}
	return routes
}

func TestRoutes(t *testing.T) {
	full := manyRoutes(60)
	if c, ok := impl.NewCentre(full); !ok || len(c.Queues) != 60 || c.Queues[0].Sub != 941 || c.Queues[59].Sub != 1000 || !slices.Equal(c.Routes, full) {
		t.Error("60 routes are as many as may be", ok)
	}
	wrong := map[string][]impl.Route{
		"61":           manyRoutes(61),
		"two the same": {routeOf("SM", 2), routeOf("WW", 2), routeOf("SM", 2)},
		"Sub 0":        {routeOf("SM", 1), routeOf("SM", 0)},
		"Sub 1001":     {routeOf("SM", 1001)},
		"Sub -1":       {routeOf("SM", -1)},
		"greatest Sub": {routeOf("SM", math.MaxInt64)},
		"least Sub":    {routeOf("SM", math.MinInt64)},
	}
	for _, kind := range []string{"", "S", "SMD", "sM", "Sm", "sm", "S1", "1S", " S", "S ", "@A", "A[", "Z\x00", "Ä", "\xffA"} {
		wrong["kind "+kind] = []impl.Route{routeOf("SM", 3), routeOf(kind, 4)}
	}
	for name, routes := range wrong {
		if c, ok := impl.NewCentre(routes); ok || !isZero(c) {
			t.Error(name, c, ok)
		}
	}
	for _, sub := range []int64{1, 2, 999, 1000} {
		if c, ok := impl.NewCentre([]impl.Route{routeOf("AZ", sub), routeOf("ZA", sub)}); !ok || len(c.Queues) != 1 || c.Queues[0].Sub != sub {
			t.Error(sub, c, ok)
		}
	}
}

// changes of the busy centre, one at a time.
type changes map[string]func(c *impl.Centre)

func rightChanges() changes {
	return changes{
		"none":               func(c *impl.Centre) {},
		"Now 0":              func(c *impl.Centre) { c.Now = 0 },
		"Now 1":              func(c *impl.Centre) { c.Now = 1 },
		"Now MaxClock":       func(c *impl.Centre) { c.Now = 1000000000000 },
		"Next MaxClock":      func(c *impl.Centre) { c.Next = 1000000000000 },
		"Next of a last Seq": func(c *impl.Centre) { c.Next = 6 },
		"Next 1":             func(c *impl.Centre) { c.Next = 1; c.Queues[0].Items = nil; c.Queues[1].Items = nil },
		"a body of 2000":     func(c *impl.Centre) { c.Seen[3].Body = strings.Repeat("x", 2000) },
		"200 Seen": func(c *impl.Centre) {
			for n := range 196 {
				c.Seen = append(c.Seen, numbered("AB", n))
			}
		},
		"one Seq in two queues": func(c *impl.Centre) { c.Queues[2].Items = []impl.Item{itemOf(5, 1, headOf("WW", ""), 1, 5)} },
		"two on their way in two queues": func(c *impl.Centre) {
			c.Queues[1].Items[0].Tries = 1
		},
		"Done MaxClock":      func(c *impl.Centre) { c.Queues[0].Done = 1000000000000 },
		"Lost MaxClock":      func(c *impl.Centre) { c.Queues[2].Lost = 1000000000000 },
		"Done and Lost 0":    func(c *impl.Centre) { c.Queues[0].Done, c.Queues[0].Lost = 0, 0 },
		"200 Items":          func(c *impl.Centre) { c.Next = 500; c.Queues[2].Items = manyItems(200) },
		"Seq 1":              func(c *impl.Centre) { c.Queues[0].Items[0].Seq = 1 },
		"Seq Next - 1":       func(c *impl.Centre) { c.Queues[0].Items[0].Seq = 9 },
		"Rank 3":             func(c *impl.Centre) { c.Queues[1].Items[0].Rank = 3 },
		"Rank 2":             func(c *impl.Centre) { c.Queues[1].Items[0].Rank = 2 },
		"Tries 4":            func(c *impl.Centre) { c.Queues[0].Items[1].Tries = 4 },
		"Tries 0":            func(c *impl.Centre) { c.Queues[0].Items[1].Tries = 0 },
		"Due 0":              func(c *impl.Centre) { c.Queues[0].Items[1].Due = 0 },
		"Due at its most":    func(c *impl.Centre) { c.Queues[0].Items[1].Due = 1000000000030 },
		"Due, not on a way":  func(c *impl.Centre) { c.Queues[0].Items[0].Due = 1000000000030 },
		"one Head twice":     func(c *impl.Centre) { c.Queues[0].Items[0].Head = c.Queues[0].Items[1].Head },
		"Heads of no route":  func(c *impl.Centre) { c.Queues[1].Items[0].Head = headOf("FT", "PAB") },
		"the last on a way":  func(c *impl.Centre) { c.Queues[0].Items[1].Tries, c.Queues[0].Items[3].Tries = 0, 1 },
		"marks out of order": func(c *impl.Centre) { c.Seen = append(c.Seen, bulletinOf("SM", "CCA", "")) },
		"empty lists":        func(c *impl.Centre) { c.Queues[2].Items = []impl.Item{} },
	}
}

// manyItems are right as long as Next is above 400.
func manyItems(count int) []impl.Item {
	var items []impl.Item
	for i := range int64(count) {
		items = append(items, itemOf(400-i, 1+i/90%3, headOf("SM", ""), 0, 0))
	}
	sort.Slice(items, func(i, j int) bool { return items[i].Rank*1000+items[i].Seq < items[j].Rank*1000+items[j].Seq })
	return items
}

func wrongChanges() changes {
	wrong := changes{
		"all zero":            func(c *impl.Centre) { *c = impl.Centre{} },
		"Now -1":              func(c *impl.Centre) { c.Now = -1 },
		"Now above MaxClock":  func(c *impl.Centre) { c.Now = 1000000000001 },
		"least Now":           func(c *impl.Centre) { c.Now = math.MinInt64 },
		"greatest Now":        func(c *impl.Centre) { c.Now = math.MaxInt64 },
		"Next 0":              func(c *impl.Centre) { c.Next = 0 },
		"Next 0, no items":    func(c *impl.Centre) { c.Next = 0; c.Queues[0].Items = nil; c.Queues[1].Items = nil },
		"Next -1, no items":   func(c *impl.Centre) { c.Next = -1; c.Queues[0].Items = nil; c.Queues[1].Items = nil },
		"Next above MaxClock": func(c *impl.Centre) { c.Next = 1000000000001 },
		"least Next":          func(c *impl.Centre) { c.Next = math.MinInt64 },
		"greatest Next":       func(c *impl.Centre) { c.Next = math.MaxInt64 },
		"a wrong heading":     func(c *impl.Centre) { c.Seen = append(c.Seen, bulletinOf("S1", "", "")) },
		"a wrong mark":        func(c *impl.Centre) { c.Seen = append(c.Seen, bulletinOf("SX", "CCY", "")) },
		"a body of 2001":      func(c *impl.Centre) { c.Seen[3].Body = strings.Repeat("x", 2001) },
		"one Head twice":      func(c *impl.Centre) { c.Seen = append(c.Seen, bulletinOf("SM", "", "other")) },
		"one Bulletin twice":  func(c *impl.Centre) { c.Seen = append(c.Seen, c.Seen[0]) },
		"201 Seen": func(c *impl.Centre) {
			for n := range 197 {
				c.Seen = append(c.Seen, numbered("AB", n))
			}
		},
		"no Queues":            func(c *impl.Centre) { c.Queues = nil },
		"the first is missing": func(c *impl.Centre) { c.Queues = c.Queues[1:] },
		"the last is missing":  func(c *impl.Centre) { c.Queues = c.Queues[:2] },
		"one too many":         func(c *impl.Centre) { c.Queues = append(c.Queues, impl.Queue{Sub: 1001}) },
		"one Sub twice":        func(c *impl.Centre) { c.Queues = append(c.Queues, impl.Queue{Sub: 1000}) },
		"one Sub for another":  func(c *impl.Centre) { c.Queues[1].Sub = 8 },
		"a Queue of Sub 0":     func(c *impl.Centre) { c.Queues = append([]impl.Queue{{}}, c.Queues...) },
		"Queues out of order":  func(c *impl.Centre) { c.Queues[1], c.Queues[2] = c.Queues[2], c.Queues[1] },
		"no Routes":            func(c *impl.Centre) { c.Routes = nil },
		"a Route too many":     func(c *impl.Centre) { c.Routes = append(c.Routes, routeOf("SM", 8)) },
		"a Route twice":        func(c *impl.Centre) { c.Routes = append(c.Routes, c.Routes[0]) },
		"a wrong Kind":         func(c *impl.Centre) { c.Routes = append(c.Routes, routeOf("Sm", 2)) },
		"61 Routes": func(c *impl.Centre) {
			for i := range 56 {
				c.Routes = append(c.Routes, routeOf("Q"+string(rune('A'+i%26)), []int64{2, 7, 1000}[i/26]))
			}
		},
	}
	// what is Seen is asked, too, where no Item asks for it
	for _, name := range []string{"a wrong heading", "a wrong mark", "a body of 2001", "one Head twice", "one Bulletin twice", "201 Seen"} {
		by := wrong[name]
		wrong[name+", no items"] = func(c *impl.Centre) { by(c); c.Queues[0].Items = nil; c.Queues[1].Items = nil }
	}
	for name, by := range wrongItems() {
		wrong[name] = func(c *impl.Centre) { by(&c.Queues[0]) }
	}
	return wrong
}

func wrongItems() map[string]func(q *impl.Queue) {
	return map[string]func(q *impl.Queue){
		"Done -1":              func(q *impl.Queue) { q.Done = -1 },
		"Done above MaxClock":  func(q *impl.Queue) { q.Done = 1000000000001 },
		"Lost -1":              func(q *impl.Queue) { q.Lost = -1 },
		"Lost above MaxClock":  func(q *impl.Queue) { q.Lost = 1000000000001 },
		"201 Items":            func(q *impl.Queue) { q.Items = slices.Repeat(q.Items[:1], 201) },
		"Seq 0":                func(q *impl.Queue) { q.Items[0].Seq = 0 },
		"Seq -1":               func(q *impl.Queue) { q.Items[0].Seq = -1 },
		"Seq Next":             func(q *impl.Queue) { q.Items[0].Seq = 10 },
		"greatest Seq":         func(q *impl.Queue) { q.Items[0].Seq = math.MaxInt64 },
		"Rank 0":               func(q *impl.Queue) { q.Items[0].Rank = 0 },
		"Rank -1":              func(q *impl.Queue) { q.Items[0].Rank = -1 },
		"Rank 4":               func(q *impl.Queue) { q.Items[3].Rank = 4 },
		"Tries -1":             func(q *impl.Queue) { q.Items[1].Tries = -1 },
		"Tries 5":              func(q *impl.Queue) { q.Items[1].Tries = 5 },
		"Due -1":               func(q *impl.Queue) { q.Items[1].Due = -1 },
		"Due -1, not on a way": func(q *impl.Queue) { q.Items[0].Due = -1 },
		"Due beyond":           func(q *impl.Queue) { q.Items[1].Due = 1000000000031 },
		"Due beyond, resting":  func(q *impl.Queue) { q.Items[0].Due = 1000000000031 },
		"Ranks out of order":   func(q *impl.Queue) { q.Items[0], q.Items[1] = q.Items[1], q.Items[0] },
		"Seqs out of order":    func(q *impl.Queue) { q.Items[1], q.Items[2] = q.Items[2], q.Items[1] },
		"one Seq in one Rank":  func(q *impl.Queue) { q.Items[2].Seq = 3 },
		"one Seq in two Ranks": func(q *impl.Queue) { q.Items[3].Seq = 5 },
		"one Item twice":       func(q *impl.Queue) { q.Items = append(q.Items, q.Items[3]) },
		"two on their way":     func(q *impl.Queue) { q.Items[0].Tries = 1 },
		"two at the end":       func(q *impl.Queue) { q.Items[3].Tries = 4 },
		"a Head not Seen":      func(q *impl.Queue) { q.Items[2].Head.Mark = "CCC" },
		"an empty Head":        func(q *impl.Queue) { q.Items[2].Head = impl.Heading{} },
		"another Minute":       func(q *impl.Queue) { q.Items[2].Head.Minute = 1 },
	}
}

func (list changes) each(do func(name string, c impl.Centre)) {
	for _, name := range slices.Sorted(maps.Keys(list)) {
		c := busyCentre()
		list[name](&c)
		do(name, c)
	}
}

func TestRightCentres(t *testing.T) {
	rightChanges().each(func(name string, c impl.Centre) {
		if !rightBySteps(c) {
			t.Error(name, "is not right by steps")
		}
		if got := impl.Pass(c, 0); !sameCentre(got, c) {
			t.Error(name, got)
		}
		if got, code := impl.Accept(c, bulletinOf("WW", "", "storm")); code != impl.RtTwice || !sameCentre(got, c) {
			t.Error(name, got, code)
		}
		if got, item, ok := impl.SendNext(c, 1000); isZero(got) || ok != (len(c.Queues[2].Items) > 0) || ok == (item == impl.Item{}) {
			t.Error(name, got, item, ok)
		}
		if got, ok := impl.Acked(c, 7, 9); ok || !sameCentre(got, c) {
			t.Error(name, got, ok)
		}
	})
}

func TestCentresThatAreNotRight(t *testing.T) {
	wrongChanges().each(func(name string, c impl.Centre) {
		if rightBySteps(c) {
			t.Error(name, "is right by steps")
		}
		for _, b := range []impl.Bulletin{bulletinOf("SM", "", "new"), bulletinOf("SX", "", "new"), bulletinOf("s", "", ""), {}} {
			if got, code := impl.Accept(c, b); code != impl.RtState || !isZero(got) {
				t.Error(name, got, code)
			}
		}
		for _, sub := range []int64{0, 2, 3, 7, 1000} {
			if got, item, ok := impl.SendNext(c, sub); ok || !isZero(got) || item != (impl.Item{}) {
				t.Error(name, sub, got, item, ok)
			}
			for _, seq := range []int64{0, 3, 5} {
				if got, ok := impl.Acked(c, sub, seq); ok || !isZero(got) {
					t.Error(name, sub, seq, got, ok)
				}
			}
		}
		for _, n := range []int64{-1, 0, 1, impl.MaxClock} {
			if got := impl.Pass(c, n); !isZero(got) {
				t.Error(name, n, got)
			}
		}
	})
}

// accepts holds a code against the one that is wanted, and, when it refuses, the centre against what it was.
func accepts(t *testing.T, c impl.Centre, b impl.Bulletin, want int64) impl.Centre {
	t.Helper()
	next, code := impl.Accept(c, b)
	if code != want {
		t.Errorf("%v: %d and not %d", b.Head, code, want)
	}
	if code != 0 && code != impl.RtNobody && !sameCentre(next, c) {
		t.Errorf("%v: refused, but there is %v", b.Head, next)
	}
	return next
}

func TestRefusalsInOrder(t *testing.T) {
	c := busyCentre()
	long := strings.Repeat("x", 2001)
	accepts(t, c, bulletinOf("SM", "", long), impl.RtForm)
	accepts(t, c, bulletinOf("SX", "", long), impl.RtForm)
	accepts(t, c, bulletinOf("SX", "", long[1:]), impl.RtNobody)
	accepts(t, c, bulletinOf("SM", "CCA", long), impl.RtForm)
	accepts(t, c, bulletinOf("SM", "CC1", "two"), impl.RtForm)
	accepts(t, c, impl.Bulletin{}, impl.RtForm)
	accepts(t, c, bulletinOf("SM", "", "one"), impl.RtTwice)
	accepts(t, c, bulletinOf("SM", "CCB", "two"), impl.RtTwice)
	accepts(t, c, bulletinOf("SM", "CCB", ""), impl.RtClash)
	accepts(t, c, bulletinOf("FT", "PAB", "x"), impl.RtClash)
	accepts(t, c, bulletinOf("SM", "CCA", "two"), impl.RtLate)
	_, wrong := changedHeadings()
	for _, h := range wrong {
		accepts(t, c, impl.Bulletin{Head: h, Body: "x"}, impl.RtForm)
	}
	for _, name := range []string{"200 Seen", "Next MaxClock"} {
		full := busyCentre()
		rightChanges()[name](&full)
		for want, b := range map[int64]impl.Bulletin{impl.RtForm: bulletinOf("SM", "", long), impl.RtTwice: bulletinOf("SM", "", "one"), impl.RtClash: bulletinOf("SM", "CCB", "x"), impl.RtLate: bulletinOf("SM", "CCA", "x"), impl.RtFull: bulletinOf("SM", "CCC", "x")} {
			accepts(t, full, b, want)
		}
		accepts(t, full, bulletinOf("QQ", "", "for nobody"), impl.RtFull)
	}
}

func TestLastThatIsTaken(t *testing.T) {
	c := busyCentre()
	for n := range 195 {
		c.Seen = append(c.Seen, numbered("AB", n))
	}
	c = accepts(t, c, bulletinOf("SM", "CCC", "the last"), 0)
	if len(c.Seen) != 200 || c.Seen[199] != bulletinOf("SM", "CCC", "the last") {
		t.Error(len(c.Seen))
	}
	accepts(t, c, bulletinOf("SM", "CCD", "one more"), impl.RtFull)
	c = busyCentre()
	c.Next = impl.MaxClock - 1
	c = accepts(t, c, bulletinOf("SM", "CCC", "the last"), 0)
	if c.Next != impl.MaxClock || c.Queues[0].Items[3].Seq != impl.MaxClock-1 {
		t.Error(c.Next, c.Queues[0])
	}
	accepts(t, c, bulletinOf("SM", "CCD", "one more"), impl.RtFull)
}

// Each mark that comes behind each other one of its name and of another.
func TestMarksThatAreLate(t *testing.T) {
	marks := rightMarks()
	empty, _ := impl.NewCentre([]impl.Route{routeOf("SM", 1)})
	for _, seen := range []string{"", "RRA", "RRL", "RRX", "CCA", "CCL", "CCX", "AAA", "AAL", "AAX", "PAA", "PAM", "PCC", "PZZ"} {
		c := accepts(t, empty, bulletinOf("SM", seen, "first"), 0)
		for mark, says := range marks {
			want := int64(0)
			switch before := marks[seen]; {
			case mark == seen:
				want = impl.RtClash
			case says[0] >= 1 && says[0] <= 3 && says[0] == before[0] && says[1] <= before[1]:
				want = impl.RtLate
			}
			accepts(t, c, bulletinOf("SM", mark, "second"), want)
		}
	}
}

func TestLateOnlyInOneName(t *testing.T) {
	c, _ := impl.NewCentre([]impl.Route{routeOf("SM", 1), routeOf("SN", 1)})
	c = accepts(t, c, bulletinOf("SM", "CCM", "x"), 0)
	others := []func(h *impl.Heading){
		func(h *impl.Heading) { h.Kind = "SN" }, func(h *impl.Heading) { h.Area = "DM" }, func(h *impl.Heading) { h.No = 2 }, func(h *impl.Heading) { h.Centre = "AMMD" },
		func(h *impl.Heading) { h.Day = 16 }, func(h *impl.Heading) { h.Hour = 1 }, func(h *impl.Heading) { h.Minute = 1 },
	}
	for _, by := range others {
		b := bulletinOf("SM", "CCA", "x")
		by(&b.Head)
		accepts(t, c, b, 0)
	}
	accepts(t, c, bulletinOf("SM", "CCL", "x"), impl.RtLate)
	// not only the last one that is Seen is asked
	c = accepts(t, c, bulletinOf("SM", "RRA", "x"), 0)
	c = accepts(t, c, bulletinOf("SM", "CCN", "x"), 0)
	c = accepts(t, c, bulletinOf("SM", "AAB", "x"), 0)
	accepts(t, c, bulletinOf("SM", "CCL", "x"), impl.RtLate)
	accepts(t, c, bulletinOf("SM", "AAA", "x"), impl.RtLate)
	accepts(t, c, bulletinOf("SM", "RRB", "x"), 0)
	accepts(t, c, bulletinOf("SM", "", "x"), 0)
	// a Centre may have Seen them in another order: the greatest is not the last
	c.Seen = append(c.Seen, bulletinOf("SM", "CCA", "x"))
	accepts(t, c, bulletinOf("SM", "CCB", "x"), impl.RtLate)
}

func TestItemsComeToTheirPlaces(t *testing.T) {
	c := busyCentre()
	next := accepts(t, c, bulletinOf("SM", "CCC", "more"), 0)
	want := busyCentre()
	want.Next, want.Seen = 11, append(want.Seen, bulletinOf("SM", "CCC", "more"))
	want.Queues[0].Items = slices.Insert(want.Queues[0].Items, 3, itemOf(10, 2, headOf("SM", "CCC"), 0, 0))
	if !sameCentre(next, want) {
		t.Error(next)
	}
	next = accepts(t, next, bulletinOf("WW", "RRA", "more"), 0)
	want.Next, want.Seen = 12, append(want.Seen, bulletinOf("WW", "RRA", "more"))
	want.Queues[0].Items = slices.Insert(want.Queues[0].Items, 1, itemOf(11, 1, headOf("WW", "RRA"), 0, 0))
	want.Queues[1].Items = append(want.Queues[1].Items, itemOf(11, 1, headOf("WW", "RRA"), 0, 0))
	if !sameCentre(next, want) {
		t.Error(next)
	}
	next = accepts(t, next, bulletinOf("FT", "", "more"), 0)
	want.Next, want.Seen = 13, append(want.Seen, bulletinOf("FT", "", "more"))
	want.Queues[0].Items = append(want.Queues[0].Items, itemOf(12, 3, headOf("FT", ""), 0, 0))
	want.Queues[2].Items = []impl.Item{itemOf(12, 3, headOf("FT", ""), 0, 0)}
	if !sameCentre(next, want) {
		t.Error(next)
	}
	next = accepts(t, next, bulletinOf("QQ", "", "for nobody"), impl.RtNobody)
	want.Next, want.Seen = 14, append(want.Seen, bulletinOf("QQ", "", "for nobody"))
	if !sameCentre(next, want) {
		t.Error(next)
	}
	if got := impl.Pass(next, 0); !sameCentre(got, next) {
		t.Error("what became of it is not right", next)
	}
}

func TestRanks(t *testing.T) {
	for a := 'A'; a <= 'Z'; a++ {
		for b := 'A'; b <= 'Z'; b++ {
			kind := string(a) + string(b)
			want := int64(3)
			if kind == "WW" {
				want = 1
			} else if strings.HasPrefix(kind, "S") {
				want = 2
			}
			c, _ := impl.NewCentre([]impl.Route{routeOf(kind, 5)})
			c = accepts(t, c, bulletinOf(kind, "", ""), 0)
			if items := c.Queues[0].Items; len(items) != 1 || items[0] != itemOf(1, want, headOf(kind, ""), 0, 0) {
				t.Error(kind, items)
			}
		}
	}
}

func TestManySubscribers(t *testing.T) {
	var routes []impl.Route
	for sub := range int64(30) {
		routes = append(routes, routeOf("WW", 30-sub))
		if sub%3 == 0 {
			routes = append(routes, routeOf("SM", 30-sub))
		}
	}
	c, _ := impl.NewCentre(routes)
	c = accepts(t, c, bulletinOf("SM", "", "one"), 0)
	c = accepts(t, c, bulletinOf("WW", "", "two"), 0)
	for i, q := range c.Queues {
		want := []impl.Item{itemOf(2, 1, headOf("WW", ""), 0, 0)}
		if i%3 == 2 {
			want = append(want, itemOf(1, 2, headOf("SM", ""), 0, 0))
		}
		if q.Sub != int64(i+1) || !slices.Equal(q.Items, want) {
			t.Error(i, q)
		}
	}
}

// What comes to a full queue comes, too, but what there is then is no right Centre.
func TestFullQueue(t *testing.T) {
	c := busyCentre()
	c.Next, c.Queues[0].Items = 500, manyItems(199)
	next := accepts(t, c, bulletinOf("WW", "AAA", "x"), 0)
	if len(next.Queues[0].Items) != 200 || !rightBySteps(next) || isZero(impl.Pass(next, 0)) {
		t.Error(len(next.Queues[0].Items))
	}
	after := accepts(t, next, bulletinOf("WW", "AAB", "x"), 0)
	at := slices.Index(after.Queues[0].Items, itemOf(501, 1, headOf("WW", "AAB"), 0, 0))
	if len(after.Queues[0].Items) != 201 || at < 1 || after.Queues[0].Items[at-1].Seq != 500 || after.Queues[0].Items[at+1].Rank != 2 || len(after.Queues[1].Items) != 3 {
		t.Error(len(after.Queues[0].Items), at)
	}
	if got, code := impl.Accept(after, bulletinOf("WW", "AAC", "x")); code != impl.RtState || !isZero(got) {
		t.Error(code, got)
	}
	if got, _, ok := impl.SendNext(after, 7); ok || !isZero(got) {
		t.Error("sent from a Centre that is not right")
	}
}

func TestSendNextAtItsDue(t *testing.T) {
	for due, sent := range map[int64]bool{99: true, 100: true, 101: false, 0: true, 110: false, impl.MaxClock + 30: false} {
		c := busyCentre()
		c.Queues[0].Items[1].Due = due
		next, item, ok := impl.SendNext(c, 2)
		want := copyOf(c)
		if sent {
			want.Queues[0].Items[1] = itemOf(3, 2, headOf("SM", ""), 3, 130)
			if !ok || item != want.Queues[0].Items[1] {
				t.Error(due, item, ok)
			}
		} else if ok || item != (impl.Item{}) {
			t.Error(due, item, ok)
		}
		if !sameCentre(next, want) {
			t.Error(due, next)
		}
	}
}

func TestLastTry(t *testing.T) {
	for tries := int64(1); tries <= 4; tries++ {
		c := busyCentre()
		c.Queues[0].Items[1].Tries, c.Queues[0].Items[1].Due = tries, 100
		next, item, ok := impl.SendNext(c, 2)
		want := copyOf(c)
		sent := itemOf(3, 2, headOf("SM", ""), tries+1, 130)
		if tries == 4 { // it is lost, and the first one is sent, not the one behind it
			want.Queues[0].Items = slices.Delete(want.Queues[0].Items, 1, 2)
			want.Queues[0].Lost = 2
			sent = itemOf(5, 1, headOf("WW", ""), 1, 130)
			want.Queues[0].Items[0] = sent
		} else {
			want.Queues[0].Items[1] = sent
		}
		if !ok || item != sent || !sameCentre(next, want) {
			t.Error(tries, item, ok, next)
		}
		c.Now = 99
		if got, item, ok := impl.SendNext(c, 2); ok || item != (impl.Item{}) || !sameCentre(got, c) {
			t.Error(tries, "its time has not come", item, ok)
		}
	}
}

func TestLostAndNoneBehind(t *testing.T) {
	c := busyCentre()
	c.Queues[1].Items[0].Tries, c.Queues[1].Items[0].Due = 4, 100
	next, item, ok := impl.SendNext(c, 7)
	want := copyOf(c)
	want.Queues[1].Items, want.Queues[1].Lost = nil, 1
	if ok || item != (impl.Item{}) || !sameCentre(next, want) {
		t.Error(next, item, ok)
	}
	again, item, ok := impl.SendNext(next, 7)
	if ok || item != (impl.Item{}) || !sameCentre(again, want) {
		t.Error(again, item, ok)
	}
	c.Queues[1].Lost = impl.MaxClock
	if next, _, _ := impl.SendNext(c, 7); next.Queues[1].Lost != impl.MaxClock || len(next.Queues[1].Items) != 0 {
		t.Error(next.Queues[1])
	}
	c.Queues[1].Lost = impl.MaxClock - 1
	if next, _, _ := impl.SendNext(c, 7); next.Queues[1].Lost != impl.MaxClock {
		t.Error(next.Queues[1])
	}
}

func TestSendNextFirst(t *testing.T) {
	c := busyCentre()
	c.Queues[1].Items[0].Due = impl.MaxClock // of one that is not on its way it says nothing
	next, item, ok := impl.SendNext(c, 7)
	want := copyOf(c)
	want.Queues[1].Items[0] = itemOf(5, 1, headOf("WW", ""), 1, 130)
	if !ok || item != want.Queues[1].Items[0] || !sameCentre(next, want) {
		t.Error(next, item, ok)
	}
	if got, item, ok := impl.SendNext(c, 1000); ok || item != (impl.Item{}) || !sameCentre(got, c) {
		t.Error("nothing is there", got, item, ok)
	}
	for _, sub := range []int64{0, 1, 3, 6, 8, 999, 1001, -2, math.MaxInt64, math.MinInt64} {
		if got, item, ok := impl.SendNext(c, sub); ok || item != (impl.Item{}) || !isZero(got) {
			t.Error(sub, got, item, ok)
		}
	}
	c.Now = impl.MaxClock
	next, item, ok = impl.SendNext(c, 7)
	if !ok || item.Due != impl.MaxClock+30 || isZero(impl.Pass(next, 0)) {
		t.Error(item, ok)
	}
	if _, _, ok := impl.SendNext(next, 7); ok {
		t.Error("the clock can't come to its Due")
	}
}

func TestAcked(t *testing.T) {
	c := busyCentre()
	next, ok := impl.Acked(c, 2, 3)
	want := copyOf(c)
	want.Queues[0].Items = slices.Delete(want.Queues[0].Items, 1, 2)
	want.Queues[0].Done = 6
	if !ok || !sameCentre(next, want) {
		t.Error(next, ok)
	}
	if got, ok := impl.Acked(next, 2, 3); ok || !sameCentre(got, want) {
		t.Error("twice", got, ok)
	}
	for _, c2 := range [][2]int64{{2, 5}, {2, 4}, {2, 2}, {2, 0}, {2, 1}, {2, 9}, {2, 10}, {2, -3}, {7, 3}, {7, 5}, {1000, 3}, {3, 3}, {0, 3}, {-2, 3}, {1001, 3}, {math.MaxInt64, 3}} {
		if got, ok := impl.Acked(c, c2[0], c2[1]); ok || !sameCentre(got, c) {
			t.Error(c2, got, ok)
		}
	}
	for tries := int64(1); tries <= 4; tries++ { // its Due is not asked
		for _, due := range []int64{0, 99, 100, 101} {
			c.Queues[0].Items[1].Tries, c.Queues[0].Items[1].Due = tries, due
			if got, ok := impl.Acked(c, 2, 3); !ok || !sameCentre(got, want) {
				t.Error(tries, due, got, ok)
			}
		}
	}
	for _, done := range []int64{impl.MaxClock, impl.MaxClock - 1} {
		c.Queues[0].Done = done
		if got, ok := impl.Acked(c, 2, 3); !ok || got.Queues[0].Done != impl.MaxClock || len(got.Queues[0].Items) != 3 {
			t.Error(got.Queues[0], ok)
		}
	}
}

func TestPass(t *testing.T) {
	for _, c := range []struct{ now, n, want int64 }{
		{100, -1, 100}, {100, math.MinInt64, 100}, {100, 0, 100}, {100, 1, 101}, {0, 0, 0}, {0, 30, 30},
		{0, impl.MaxClock, impl.MaxClock}, {1, impl.MaxClock, impl.MaxClock}, {0, impl.MaxClock + 1, impl.MaxClock}, {100, impl.MaxClock - 100, impl.MaxClock}, {100, impl.MaxClock - 101, impl.MaxClock - 1},
		{100, impl.MaxClock - 99, impl.MaxClock}, {0, math.MaxInt64, impl.MaxClock}, {impl.MaxClock, math.MaxInt64, impl.MaxClock}, {impl.MaxClock, 1, impl.MaxClock}, {impl.MaxClock, -1, impl.MaxClock},
	} {
		given := busyCentre()
		given.Now = c.now
		want := busyCentre()
		want.Now = c.want
		if got := impl.Pass(given, c.n); !sameCentre(got, want) {
			t.Error(c, got)
		}
	}
}

var twoLetters = regexp.MustCompile(`\A[A-Z][A-Z]\z`)

// rightBySteps asks each pair of things, one by one.
func rightBySteps(c impl.Centre) bool {
	fine := len(c.Routes) <= 60 && len(c.Seen) <= 200 && c.Now >= 0 && c.Now <= 1000000000000 && c.Next >= 1 && c.Next <= 1000000000000
	subs := map[int64]bool{}
	for i, r := range c.Routes {
		fine = fine && twoLetters.MatchString(r.Kind) && r.Sub >= 1 && r.Sub <= 1000 && !slices.Contains(c.Routes[i+1:], r)
		subs[r.Sub] = true
	}
	heads := map[string]bool{}
	for _, b := range c.Seen {
		text, ok := impl.HeadingText(b.Head)
		fine = fine && ok && len(b.Body) <= 2000 && !heads[text]
		heads[text] = true
	}
	fine = fine && len(c.Queues) == len(subs)
	for i, q := range c.Queues {
		fine = fine && subs[q.Sub] && (i == 0 || c.Queues[i-1].Sub < q.Sub) && queueBySteps(q, c.Next, heads)
	}
	return fine
}

func queueBySteps(q impl.Queue, next int64, heads map[string]bool) bool {
	fine := q.Done >= 0 && q.Done <= 1000000000000 && q.Lost >= 0 && q.Lost <= 1000000000000 && len(q.Items) <= 200
	for i, x := range q.Items {
		text, ok := impl.HeadingText(x.Head)
		fine = fine && ok && heads[text] && x.Seq > 0 && x.Seq < next && x.Rank > 0 && x.Rank < 4 && x.Tries >= 0 && x.Tries < 5 && x.Due >= 0 && x.Due <= 1000000000030
		for _, y := range q.Items[:i] {
			fine = fine && x.Seq != y.Seq && (y.Rank < x.Rank || y.Rank == x.Rank && y.Seq < x.Seq) && (x.Tries == 0 || y.Tries == 0)
		}
	}
	return fine
}

// acceptBySteps tells marks from headings' texts, and sorts whole queues.
func acceptBySteps(c impl.Centre, b impl.Bulletin) (impl.Centre, int64) {
	if !rightBySteps(c) {
		return impl.Centre{}, 1
	}
	text, ok := impl.HeadingText(b.Head)
	if !ok || len(b.Body) > 2000 {
		return c, 2
	}
	late := false
	for _, seen := range c.Seen {
		other, _ := impl.HeadingText(seen.Head)
		switch {
		case other == text && seen.Body == b.Body:
			return c, 3
		case other == text:
			return c, 4
		case len(text) == 22 && len(other) == 22 && text[19] != 'P' && text[:21] == other[:21] && text[21] <= other[21]:
			late = true
		}
	}
	if late {
		return c, 5
	}
	if len(c.Seen) >= 200 || c.Next >= 1000000000000 {
		return c, 6
	}
	code := int64(7)
	next := copyOf(c)
	for i, q := range next.Queues {
		if slices.Contains(c.Routes, routeOf(b.Head.Kind, q.Sub)) {
			rank := map[bool]int64{true: 2, false: 3}[b.Head.Kind[:1] == "S"]
			if b.Head.Kind == "WW" {
				rank = 1
			}
			items := append([]impl.Item{itemOf(c.Next, rank, b.Head, 0, 0)}, q.Items...)
			sort.Slice(items, func(a, b int) bool {
				return items[a].Rank < items[b].Rank || items[a].Rank == items[b].Rank && items[a].Seq < items[b].Seq
			})
			next.Queues[i].Items = items
			code = 0
		}
	}
	next.Seen = append(next.Seen, b)
	next.Next++
	return next, code
}

// sendBySteps parts a queue in the one on its way and the rest.
func sendBySteps(c impl.Centre, sub int64) (impl.Centre, impl.Item, bool) {
	if !rightBySteps(c) {
		return impl.Centre{}, impl.Item{}, false
	}
	for i, q := range c.Queues {
		if q.Sub != sub {
			continue
		}
		next := copyOf(c)
		var rest []impl.Item
		send := int64(-1)
		for _, x := range q.Items {
			switch {
			case x.Tries == 0:
				rest = append(rest, x)
			case x.Due > c.Now:
				return next, impl.Item{}, false
			case x.Tries < 4:
				send = x.Seq
			default:
				next.Queues[i].Lost = min(q.Lost+1, 1000000000000)
			}
		}
		if send < 0 {
			next.Queues[i].Items = rest
			if len(rest) == 0 {
				return next, impl.Item{}, false
			}
			send = rest[0].Seq
		}
		for k, x := range next.Queues[i].Items {
			if x.Seq == send {
				x.Tries, x.Due = x.Tries+1, c.Now+30
				next.Queues[i].Items[k] = x
				return next, x, true
			}
		}
	}
	return impl.Centre{}, impl.Item{}, false
}

func ackedBySteps(c impl.Centre, sub, seq int64) (impl.Centre, bool) {
	if !rightBySteps(c) {
		return impl.Centre{}, false
	}
	next, found := copyOf(c), false
	for i, q := range c.Queues {
		var rest []impl.Item
		for _, x := range q.Items {
			if q.Sub == sub && x.Seq == seq && x.Tries != 0 {
				found = true
				next.Queues[i].Done = min(q.Done+1, 1000000000000)
				continue
			}
			rest = append(rest, x)
		}
		next.Queues[i].Items = rest
	}
	return next, found
}

// rolledBulletin is one of a few, so that they come again.
func rolledBulletin(d *dice) impl.Bulletin {
	kinds := []string{"SM", "SI", "WW", "WX", "FT", "AS"}
	marks := []string{"", "RRA", "RRB", "CCA", "CCB", "CCC", "AAA", "AAX", "PAA", "PAB"}
	b := bulletinOf(kinds[d.below(6)], marks[d.below(10)], []string{"a", "b"}[d.below(8)/7])
	b.Head.No = d.below(2)
	switch d.below(40) {
	case 0:
		b.Head.Kind = "s"
	case 1:
		b.Body = strings.Repeat("z", 2000+int(d.below(2)))
	}
	return b
}

func rolledRoutes(d *dice) []impl.Route {
	var routes []impl.Route
	for range d.below(9) {
		r := routeOf([]string{"SM", "SI", "WW", "WX", "FT", "AS"}[d.below(6)], 1+d.below(4))
		if !slices.Contains(routes, r) {
			routes = append(routes, r)
		}
	}
	return routes
}

// rolledStep does one of the calls in both ways and holds them against each other.
func rolledStep(t *testing.T, d *dice, c impl.Centre, came map[int64]int) impl.Centre {
	t.Helper()
	switch sub := d.below(6); d.below(5) {
	case 0, 1:
		b := rolledBulletin(d)
		got, code := impl.Accept(c, b)
		want, right := acceptBySteps(c, b)
		if code != right || !sameCentre(got, want) {
			t.Fatalf("Accept(%v, %v) = %v, %d; by steps %v, %d", c, b, got, code, want, right)
		}
		came[code]++
		return got
	case 2:
		got, item, ok := impl.SendNext(c, sub)
		want, other, right := sendBySteps(c, sub)
		if ok != right || item != other || !sameCentre(got, want) {
			t.Fatalf("SendNext(%v, %d) = %v, %v, %t; by steps %v, %v, %t", c, sub, got, item, ok, want, other, right)
		}
		came[100+item.Tries]++
		if isZero(got) {
			return c
		}
		return got
	case 3:
		seq := 1 + d.below(min(max(c.Next, 1), 30))
		got, ok := impl.Acked(c, sub, seq)
		want, right := ackedBySteps(c, sub, seq)
		if ok != right || !sameCentre(got, want) {
			t.Fatalf("Acked(%v, %d, %d) = %v, %t; by steps %v, %t", c, sub, seq, got, ok, want, right)
		}
		if ok {
			came[200]++
		}
		return got
	}
	n := d.below(40) - 4
	got, want := impl.Pass(c, n), copyOf(c)
	want.Now += max(n, 0)
	if !rightBySteps(c) {
		want = impl.Centre{}
	}
	if !sameCentre(got, want) {
		t.Fatalf("Pass(%v, %d) = %v", c, n, got)
	}
	return got
}

func TestRoutingBySteps(t *testing.T) {
	d := dice(511)
	came := map[int64]int{}
	for range 150 {
		routes := rolledRoutes(&d)
		c, ok := impl.NewCentre(routes)
		if !ok || !rightBySteps(c) {
			t.Fatal(routes, c)
		}
		for range 120 {
			c = rolledStep(t, &d, c, came)
			if !rightBySteps(c) {
				t.Fatal("it is not right any more", c)
			}
		}
	}
	cameOften(t, came, 0, impl.RtForm, impl.RtTwice, impl.RtClash, impl.RtLate, impl.RtNobody, 101, 102, 103, 104, 200)
}

// spoil changes one thing of a Centre, which may become wrong by it or not.
func spoil(d *dice, c *impl.Centre) {
	near := func(n *int64) { *n += d.below(7) - 3 }
	if d.below(3) == 0 || len(c.Queues) == 0 {
		near([]*int64{&c.Now, &c.Next}[d.below(2)])
		return
	}
	q := &c.Queues[d.below(int64(len(c.Queues)))]
	if d.below(4) == 0 || len(q.Items) == 0 {
		near([]*int64{&q.Done, &q.Lost, &q.Sub}[d.below(3)])
		return
	}
	x := &q.Items[d.below(int64(len(q.Items)))]
	switch d.below(6) {
	case 0:
		x.Head.Mark = "CCA"
	case 1:
		y := &q.Items[d.below(int64(len(q.Items)))]
		*x, *y = *y, *x
	default:
		near([]*int64{&x.Seq, &x.Rank, &x.Tries, &x.Due}[d.below(4)])
	}
}

// Centres that no row of calls made, right and wrong.
func TestSpoiltCentresBySteps(t *testing.T) {
	d := dice(512)
	came := map[int64]int{}
	rights := 0
	for range 400 {
		c, _ := impl.NewCentre(rolledRoutes(&d))
		for range 10 + d.below(30) {
			c = rolledStep(t, &d, c, came)
		}
		for range 20 {
			spoilt := copyOf(c)
			for range 1 + d.below(2) {
				spoil(&d, &spoilt)
			}
			if rightBySteps(spoilt) {
				rights++
			}
			rolledStep(t, &d, spoilt, came)
		}
	}
	if rights < 1000 || rights > 7000 {
		t.Error(rights, "of 8000 are right")
	}
	cameOften(t, came, impl.RtState, 0, 101, 102)
}

// drained sends and acknowledges until nothing is left, and tells what was sent.
func drained(t *testing.T, c impl.Centre, sub int64) (impl.Centre, []impl.Item) {
	t.Helper()
	var sent []impl.Item
	for {
		next, item, ok := impl.SendNext(c, sub)
		if !ok {
			return next, sent
		}
		sent = append(sent, item)
		if c, ok = impl.Acked(next, sub, item.Seq); !ok {
			t.Fatal("it was not on its way", item)
		}
	}
}

// Promise 9: a bulletin is delivered once to each subscriber of its kind, corrections in order, duplicates dropped.
func TestDeliveredOnce(t *testing.T) {
	d := dice(513)
	for range 60 {
		routes := rolledRoutes(&d)
		c, _ := impl.NewCentre(routes)
		got := map[int64][]impl.Heading{}
		for range 150 {
			c, _ = impl.Accept(c, rolledBulletin(&d))
			sub := 1 + d.below(4)
			next, item, ok := impl.SendNext(c, sub)
			if !ok {
				continue
			}
			got[sub] = append(got[sub], item.Head)
			c, _ = impl.Acked(next, sub, item.Seq)
			if again, ok := impl.Acked(c, sub, item.Seq); ok || !sameCentre(again, c) {
				t.Fatal("acknowledged twice", item)
			}
		}
		for _, q := range c.Queues {
			var sent []impl.Item
			c, sent = drained(t, c, q.Sub)
			for _, item := range sent {
				got[q.Sub] = append(got[q.Sub], item.Head)
			}
			wantedOf(t, c, q.Sub, got[q.Sub])
		}
	}
}

// wantedOf holds what a subscriber got against all that is Seen.
func wantedOf(t *testing.T, c impl.Centre, sub int64, got []impl.Heading) {
	t.Helper()
	want := map[impl.Heading]int{}
	for _, b := range c.Seen {
		if slices.Contains(c.Routes, routeOf(b.Head.Kind, sub)) {
			want[b.Head] = 1
		}
	}
	numbers := map[string]int64{}
	for _, h := range got {
		want[h]--
		says, number := impl.MarkOf(h.Mark)
		text, _ := impl.HeadingText(h)
		name := fmt.Sprint(text[:18], says)
		if says >= impl.MkDelay && says <= impl.MkAmend && numbers[name] >= number {
			t.Error(sub, h, "came behind number", numbers[name])
		}
		numbers[name] = number
	}
	for h, left := range want {
		if left != 0 {
			t.Error(sub, h, "came", 1-left, "times")
		}
	}
	for _, q := range c.Queues {
		if q.Sub == sub && (q.Done != int64(len(got)) || q.Lost != 0 || len(q.Items) != 0) {
			t.Error(q)
		}
	}
}

// Promise 9: one that is never acknowledged is sent so often as is told, and no more.
func TestNeverAcknowledged(t *testing.T) {
	c, _ := impl.NewCentre([]impl.Route{routeOf("SM", 4), routeOf("WW", 4), routeOf("WW", 6)})
	c = accepts(t, c, bulletinOf("SM", "", "one"), 0)
	c = accepts(t, c, bulletinOf("SM", "CCA", "two"), 0)
	c = accepts(t, c, bulletinOf("WW", "", "three"), 0)
	var tried []impl.Item
	for now := range int64(1000) {
		next, item, ok := impl.SendNext(c, 4)
		if ok {
			if item.Due != now+30 || now%30 != 0 {
				t.Error("at", now, item)
			}
			item.Due = 0
			tried = append(tried, item)
		}
		c = impl.Pass(next, 1)
	}
	var want []impl.Item
	for _, item := range []impl.Item{itemOf(3, 1, headOf("WW", ""), 0, 0), itemOf(1, 2, headOf("SM", ""), 0, 0), itemOf(2, 2, headOf("SM", "CCA"), 0, 0)} {
		for range 4 {
			item.Tries++
			want = append(want, item)
		}
	}
	if !slices.Equal(tried, want) {
		t.Error(tried)
	}
	if q := c.Queues[0]; len(q.Items) != 0 || q.Lost != 3 || q.Done != 0 {
		t.Error(q)
	}
	if q := c.Queues[1]; len(q.Items) != 1 || q.Lost != 0 || q.Done != 0 {
		t.Error(q)
	}
	c = accepts(t, c, bulletinOf("SM", "CCA", "two"), impl.RtTwice)
	if _, _, ok := impl.SendNext(c, 4); ok {
		t.Error("what was lost is sent again")
	}
}
