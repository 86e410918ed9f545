package tests

import (
	"cmp"
	"fmt"
	"math"
	"slices"
	"testing"

	"loop.example/g00051/impl"
)

func TestStormNumbers(t *testing.T) {
	if impl.MaxFrames != 20 {
		t.Error(impl.MaxFrames)
	}
}

func storms(t *testing.T, b impl.Box, level int64, want ...int64) {
	t.Helper()
	if got := impl.Cells(b, level); !slices.Equal(got, want) {
		t.Errorf("Cells(%v, %d) = %v and not %v", b, level, got, want)
	}
}

func TestWrongBoxesHaveNoStorms(t *testing.T) {
	for _, b := range wrongBoxes() {
		for _, level := range []int64{1, math.MinInt64, math.MaxInt64} {
			if numbers := impl.Cells(b, level); len(numbers) != 0 {
				t.Error(b.Rows, b.Cols, len(b.Cells), numbers)
			}
		}
	}
}

func TestStormsOfOneCell(t *testing.T) {
	storms(t, boxOf(1, 1, 5), 5, 1)
	storms(t, boxOf(1, 1, 5), 6, 0)
	storms(t, boxOf(1, 1, 5), 4, 1)
	storms(t, boxOf(1, 1, 5), math.MinInt64, 1)
	storms(t, boxOf(1, 1, 5), math.MaxInt64, 0)
	storms(t, boxOf(1, 1, 1000000000), 1000000000, 1)
	storms(t, boxOf(1, 1, 1000000000), 1000000001, 0)
	storms(t, boxOf(1, 1, -1000000000), -1000000000, 1)
	storms(t, boxOf(1, 1, -1000000000), -999999999, 0)
	storms(t, boxOf(1, 1, 0), 0, 1)
	storms(t, boxOf(1, 1, -1), 0, 0)
}

func TestKnownStorms(t *testing.T) {
	storms(t, boxOf(2, 3, 0, 0, 0, 0, 0, 0), 1, 0, 0, 0, 0, 0, 0)
	storms(t, boxOf(2, 3, 1, 1, 1, 1, 1, 1), 1, 1, 1, 1, 1, 1, 1)
	storms(t, boxOf(2, 4, 9, 0, 9, 9, 0, 9, 0, 0), 9, 1, 0, 2, 2, 0, 3, 0, 0)
	storms(t, boxOf(1, 6, 7, 0, 7, 7, 0, 7), 7, 1, 0, 2, 2, 0, 3)
	storms(t, boxOf(6, 1, 7, 0, 7, 7, 0, 7), 7, 1, 0, 2, 2, 0, 3)
	// A row's end and the beginning of the next one do not touch.
	storms(t, boxOf(2, 3, 0, 0, 1, 1, 0, 0), 1, 0, 0, 1, 2, 0, 0)
	storms(t, boxOf(3, 2, 0, 1, 1, 0, 0, 1), 1, 0, 1, 2, 0, 0, 3)
	// Cells that touch at a corner alone stay apart, either way.
	storms(t, boxOf(2, 2, 1, 0, 0, 1), 1, 1, 0, 0, 2)
	storms(t, boxOf(2, 2, 0, 1, 1, 0), 1, 0, 1, 2, 0)
	storms(t, boxOf(3, 3, 1, 0, 1, 0, 1, 0, 1, 0, 1), 1, 1, 0, 2, 0, 3, 0, 4, 0, 5)
	// Numbers go by the first cell, wherever the rest lies.
	storms(t, boxOf(3, 3, 0, 0, 1, 1, 0, 1, 1, 0, 0), 1, 0, 0, 1, 2, 0, 1, 2, 0, 0)
	storms(t, boxOf(2, 4, 2, 5, 3, 2, 4, 1, 1, 3), 3, 0, 1, 1, 0, 2, 0, 0, 3)
	storms(t, boxOf(2, 4, 2, 5, 3, 2, 4, 1, 1, 3), 2, 1, 1, 1, 1, 1, 0, 0, 1)
	storms(t, boxOf(2, 4, 2, 5, 3, 2, 4, 1, 1, 3), 4, 0, 1, 0, 0, 2, 0, 0, 0)
}

// What hangs together only by a later row has one number, that of its first cell.
func TestStormsThatJoinLater(t *testing.T) {
	storms(t, boxOf(2, 3, 1, 0, 1, 1, 1, 1), 1, 1, 0, 1, 1, 1, 1)
	storms(t, boxOf(3, 5, 1, 0, 1, 0, 1, 1, 0, 1, 0, 1, 1, 1, 1, 0, 1), 1, 1, 0, 1, 0, 2, 1, 0, 1, 0, 2, 1, 1, 1, 0, 2)
	storms(t, boxOf(3, 5, 1, 0, 1, 0, 1, 0, 0, 1, 0, 1, 1, 0, 1, 1, 1), 1, 1, 0, 2, 0, 2, 0, 0, 2, 0, 2, 3, 0, 2, 2, 2)
	storms(t, boxOf(3, 3, 0, 1, 0, 1, 0, 1, 1, 1, 1), 1, 0, 1, 0, 2, 0, 2, 2, 2, 2)
}

// stormsByJoining lets each high cell take the least number about it, until none changes; then they are counted.
func stormsByJoining(b impl.Box, level int64) []int64 {
	least := riseFrom(0, len(b.Cells))
	for changed := true; changed; {
		changed = false
		for cell := range least {
			for _, k := range beside(b, int64(cell)) {
				if b.Cells[cell] >= level && b.Cells[k] >= level && least[k] < least[cell] {
					least[cell], changed = least[k], true
				}
			}
		}
	}
	numbers, count := make([]int64, len(b.Cells)), int64(0)
	for cell, first := range least {
		switch {
		case b.Cells[cell] < level:
		case first == int64(cell):
			count++
			numbers[cell] = count
		default:
			numbers[cell] = numbers[first]
		}
	}
	return numbers
}

// hangTogether holds promise 14 of a box: high cells side by side have one number, and each number's cells can all be come to from its first.
func hangTogether(t *testing.T, b impl.Box, level int64) {
	t.Helper()
	numbers := impl.Cells(b, level)
	if want := stormsByJoining(b, level); !slices.Equal(numbers, want) {
		t.Fatalf("Cells(%v, %d) = %v and not %v", b, level, numbers, want)
	}
	come := make([]int64, len(numbers))
	last := int64(0)
	var goOn func(cell int64)
	goOn = func(cell int64) {
		come[cell] = numbers[cell]
		for _, k := range beside(b, cell) {
			if b.Cells[k] >= level && numbers[k] != numbers[cell] {
				t.Fatalf("Cells(%v, %d) = %v: %d and %d hang together", b, level, numbers, cell, k)
			}
			if numbers[k] > 0 && come[k] == 0 {
				goOn(k)
			}
		}
	}
	for cell, n := range numbers {
		if (n > 0) != (b.Cells[cell] >= level) {
			t.Fatalf("Cells(%v, %d) = %v: is %d high?", b, level, numbers, cell)
		}
		if n > 0 && come[cell] == 0 {
			if last++; n != last {
				t.Fatalf("Cells(%v, %d) = %v: %d should have %d", b, level, numbers, cell, last)
			}
			goOn(int64(cell))
		}
	}
}

// Promise 14, of all the boxes of a few cells that there are.
func TestAllSmallStorms(t *testing.T) {
	for _, size := range [][2]int64{{1, 1}, {1, 6}, {6, 1}, {2, 2}, {2, 5}, {5, 2}, {3, 3}, {3, 4}, {4, 3}} {
		count := size[0] * size[1]
		for which := range 1 << count {
			b := boxOf(size[0], size[1])
			for k := range count {
				b.Cells = append(b.Cells, int64(which>>k&1))
			}
			hangTogether(t, b, 1)
		}
	}
}

func TestRolledStorms(t *testing.T) {
	d := dice(1401)
	for range 1000 {
		b := rolledHeights(&d, 24)
		hangTogether(t, b, b.Cells[d.below(int64(len(b.Cells)))])
		hangTogether(t, b, d.below(5)-2)
	}
}

func TestGreatestStorms(t *testing.T) {
	board := boxOf(24, 24)
	for k := range int64(576) {
		board.Cells = append(board.Cells, (k+k/24)%2)
	}
	hangTogether(t, board, 1)
	if numbers := impl.Cells(board, 1); slices.Max(numbers) != 288 {
		t.Error(numbers)
	}
	hangTogether(t, boxOf(24, 24, times(576, int64(1000000000))...), 1000000000)
	// A long way that hangs together cell by cell, and what is left between its windings.
	b, way := spiralBox()
	for cell := range b.Cells {
		b.Cells[cell] = min(b.Cells[cell], 1)
	}
	hangTogether(t, b, 1)
	for cell := range b.Cells {
		b.Cells[cell] = -b.Cells[cell]
	}
	hangTogether(t, b, 0)
	for _, cell := range way {
		if impl.Cells(b, 0)[cell] != 1 {
			t.Fatal("the way has other numbers", cell)
		}
	}
	// The teeth of a comb join at its last row alone.
	comb := boxOf(24, 24, times(576, int64(1))...)
	for k := range comb.Cells {
		if k%2 == 1 && k < 552 {
			comb.Cells[k] = 0
		}
	}
	hangTogether(t, comb, 1)
	if numbers := impl.Cells(comb, 1); slices.Max(numbers) != 1 {
		t.Error(numbers)
	}
}

func trackOf(id, from, split, into int64, cells ...int64) impl.Track {
	return impl.Track{Id: id, From: from, Cells: cells, Split: split, Into: into}
}

func sameTrack(a, b impl.Track) bool {
	return a.Id == b.Id && a.From == b.From && a.Split == b.Split && a.Into == b.Into && slices.Equal(a.Cells, b.Cells)
}

func tracked(t *testing.T, frames [][]int64, want ...impl.Track) {
	t.Helper()
	if got, ok := impl.Tracks(frames); !ok || !slices.EqualFunc(got, want, sameTrack) {
		t.Errorf("Tracks(%v) = %v, %t and not %v", frames, got, ok, want)
	}
}

func refusesFrames(t *testing.T, what string, frames [][]int64) {
	t.Helper()
	if got, ok := impl.Tracks(frames); ok || len(got) != 0 {
		t.Errorf("%s: Tracks = %v, %t", what, got, ok)
	}
}

func TestFramesWithoutStorms(t *testing.T) {
	tracked(t, nil)
	tracked(t, [][]int64{})
	tracked(t, [][]int64{nil})
	tracked(t, [][]int64{{}, nil, {}})
	tracked(t, [][]int64{{0}})
	tracked(t, [][]int64{{0, 0, 0}, {0, 0, 0}})
	tracked(t, times(20, []int64{}))
	tracked(t, times(20, times(576, int64(0))))
}

func TestStormsThatGoOn(t *testing.T) {
	tracked(t, [][]int64{{1}}, trackOf(1, 0, 0, 0, 1))
	tracked(t, [][]int64{{1, 2, 0}}, trackOf(1, 0, 0, 0, 1), trackOf(2, 0, 0, 0, 2))
	tracked(t, [][]int64{{2, 1, 0}}, trackOf(1, 0, 0, 0, 1), trackOf(2, 0, 0, 0, 2))
	tracked(t, [][]int64{{1, 0, 2}, {1, 0, 2}, {1, 0, 2}}, trackOf(1, 0, 0, 0, 1, 1, 1), trackOf(2, 0, 0, 0, 2, 2, 2))
	// Others' numbers, the same tracks.
	tracked(t, [][]int64{{1, 0, 2}, {2, 0, 1}, {1, 0, 2}}, trackOf(1, 0, 0, 0, 1, 2, 1), trackOf(2, 0, 0, 0, 2, 1, 2))
	tracked(t, [][]int64{{0, 1, 1, 0}, {0, 0, 1, 1}, {0, 0, 0, 1}}, trackOf(1, 0, 0, 0, 1, 1, 1))
	// One ends, one begins without a parent, both at once.
	tracked(t, [][]int64{{1}, {0}}, trackOf(1, 0, 0, 0, 1))
	tracked(t, [][]int64{{0}, {1}}, trackOf(1, 1, 0, 0, 1))
	tracked(t, [][]int64{{1, 0}, {0, 1}}, trackOf(1, 0, 0, 0, 1), trackOf(2, 1, 0, 0, 1))
	tracked(t, [][]int64{{1}, {0}, {1}}, trackOf(1, 0, 0, 0, 1), trackOf(2, 2, 0, 0, 1))
	tracked(t, [][]int64{{0, 1}, {1, 2}, {1, 0}}, trackOf(1, 0, 0, 0, 1, 2), trackOf(2, 1, 0, 0, 1, 1))
	// One that goes where another was, is the other's.
	tracked(t, [][]int64{{1, 1, 0, 2, 2}, {0, 0, 0, 1, 1}}, trackOf(1, 0, 0, 0, 1), trackOf(2, 0, 0, 0, 2, 1))
	tracked(t, [][]int64{{1, 0, 2, 0}, {0, 0, 1, 2}}, trackOf(1, 0, 0, 0, 1), trackOf(2, 0, 0, 0, 2, 1), trackOf(3, 1, 0, 0, 2))
}

func TestSplits(t *testing.T) {
	// In two: the greater overlap goes on; of equal ones the least storm cell.
	tracked(t, [][]int64{{1, 1, 1, 1}, {1, 0, 2, 2}}, trackOf(1, 0, 0, 0, 1, 2), trackOf(2, 1, 1, 0, 1))
	tracked(t, [][]int64{{1, 1, 1, 1}, {1, 1, 0, 2}}, trackOf(1, 0, 0, 0, 1, 1), trackOf(2, 1, 1, 0, 2))
	tracked(t, [][]int64{{1, 1, 1}, {1, 0, 2}}, trackOf(1, 0, 0, 0, 1, 1), trackOf(2, 1, 1, 0, 2))
	tracked(t, [][]int64{{1, 1, 1}, {2, 0, 1}}, trackOf(1, 0, 0, 0, 1, 1), trackOf(2, 1, 1, 0, 2))
	// The size of a storm cell is not its overlap.
	tracked(t, [][]int64{{0, 0, 0, 1, 1, 1}, {1, 1, 1, 1, 2, 2}}, trackOf(1, 0, 0, 0, 1, 2), trackOf(2, 1, 1, 0, 1))
	// In three.
	tracked(t, [][]int64{{1, 1, 1, 1, 1, 1}, {1, 0, 2, 2, 0, 3}}, trackOf(1, 0, 0, 0, 1, 2), trackOf(2, 1, 1, 0, 1), trackOf(3, 1, 1, 0, 3))
	tracked(t, [][]int64{{1, 1, 1, 1, 1}, {1, 0, 2, 0, 3}}, trackOf(1, 0, 0, 0, 1, 1), trackOf(2, 1, 1, 0, 2), trackOf(3, 1, 1, 0, 3))
	tracked(t, [][]int64{{1, 1, 1, 1, 1, 1}, {1, 0, 2, 0, 3, 3}}, trackOf(1, 0, 0, 0, 1, 3), trackOf(2, 1, 1, 0, 1), trackOf(3, 1, 1, 0, 2))
	// Split's is the Id of the parent's track, not its number; what split off may split again.
	tracked(t, [][]int64{{0, 0, 0, 0, 1}, {1, 1, 1, 1, 0}, {1, 0, 2, 2, 0}, {1, 0, 2, 3, 0}},
		trackOf(1, 0, 0, 0, 1), trackOf(2, 1, 0, 0, 1, 2, 2), trackOf(3, 2, 2, 0, 1, 1), trackOf(4, 3, 2, 0, 3))
	// Two split at once.
	tracked(t, [][]int64{{1, 1, 1, 0, 2, 2, 2}, {1, 0, 2, 0, 3, 0, 4}}, trackOf(1, 0, 0, 0, 1, 1), trackOf(2, 0, 0, 0, 2, 3), trackOf(3, 1, 1, 0, 2), trackOf(4, 1, 2, 0, 4))
}

func TestMerges(t *testing.T) {
	// In two: the greater overlap is the parent; of equal ones the least storm cell.
	tracked(t, [][]int64{{1, 0, 2, 2}, {1, 1, 1, 1}}, trackOf(1, 0, 0, 2, 1), trackOf(2, 0, 0, 0, 2, 1))
	tracked(t, [][]int64{{1, 1, 0, 2}, {1, 1, 1, 1}}, trackOf(1, 0, 0, 0, 1, 1), trackOf(2, 0, 0, 1, 2))
	tracked(t, [][]int64{{1, 0, 2}, {1, 1, 1}}, trackOf(1, 0, 0, 0, 1, 1), trackOf(2, 0, 0, 1, 2))
	tracked(t, [][]int64{{2, 0, 1}, {1, 1, 1}}, trackOf(1, 0, 0, 0, 1, 1), trackOf(2, 0, 0, 1, 2))
	// In three.
	tracked(t, [][]int64{{1, 0, 2, 2, 0, 3}, {1, 1, 1, 1, 1, 1}}, trackOf(1, 0, 0, 2, 1), trackOf(2, 0, 0, 0, 2, 1), trackOf(3, 0, 0, 2, 3))
	tracked(t, [][]int64{{1, 0, 2, 0, 3}, {1, 1, 1, 1, 1}}, trackOf(1, 0, 0, 0, 1, 1), trackOf(2, 0, 0, 1, 2), trackOf(3, 0, 0, 1, 3))
	tracked(t, [][]int64{{1, 1, 1, 0, 2}, {1, 0, 2, 0, 3}, {1, 1, 1, 1, 1}}, trackOf(1, 0, 0, 0, 1, 1, 1), trackOf(2, 0, 0, 1, 2, 3), trackOf(3, 1, 1, 1, 2))
	// Into is the Id of the track that took it in, not its number, in whatever frame.
	tracked(t, [][]int64{{0, 0, 0, 1}, {1, 0, 2, 0}, {1, 1, 1, 0}}, trackOf(1, 0, 0, 0, 1), trackOf(2, 1, 0, 0, 1, 1), trackOf(3, 1, 0, 2, 2))
}

func TestSplitsAndMergesInOneFrame(t *testing.T) {
	// 2 splits in 1 and 2; 1 goes into what split off, a track that only begins there.
	tracked(t, [][]int64{{1, 2, 2, 2, 2, 2, 2}, {1, 1, 1, 2, 2, 2, 2}}, trackOf(1, 0, 0, 3, 1), trackOf(2, 0, 0, 0, 2, 2), trackOf(3, 1, 2, 0, 1))
	// 1 splits in 1 and 2, 2 goes into the one, 3 into the other.
	tracked(t, [][]int64{{2, 1, 1, 1, 1, 1, 3}, {1, 1, 1, 0, 2, 2, 2}}, trackOf(1, 0, 0, 0, 1, 1), trackOf(2, 0, 0, 1, 2), trackOf(3, 0, 0, 4, 3), trackOf(4, 1, 1, 0, 2))
	// One that ends goes into that with which it has most, of equal ones the least, be they others'.
	tracked(t, [][]int64{{1, 1, 1, 2, 2, 3, 3, 2, 2}, {1, 1, 1, 1, 2, 2, 2, 2, 0}}, trackOf(1, 0, 0, 0, 1, 1), trackOf(2, 0, 0, 0, 2, 2), trackOf(3, 0, 0, 2, 3))
	tracked(t, [][]int64{{1, 1, 2, 2, 3, 3}, {1, 1, 1, 2, 2, 2}}, trackOf(1, 0, 0, 0, 1, 1), trackOf(2, 0, 0, 1, 2), trackOf(3, 0, 0, 0, 3, 2))
	tracked(t, [][]int64{{1, 1, 2, 2, 3, 3}, {2, 2, 2, 1, 1, 1}}, trackOf(1, 0, 0, 0, 1, 2), trackOf(2, 0, 0, 3, 2), trackOf(3, 0, 0, 0, 3, 1))
	// 2 has most with what is 1's, though it is the parent of less: it goes on there.
	tracked(t, [][]int64{{1, 1, 1, 1, 2, 2, 2, 2}, {1, 1, 1, 1, 1, 1, 1, 2}}, trackOf(1, 0, 0, 0, 1, 1), trackOf(2, 0, 0, 0, 2, 2))
	// Round about: each of two has half of each other.
	tracked(t, [][]int64{{1, 1, 2, 2}, {1, 2, 1, 2}}, trackOf(1, 0, 0, 0, 1, 1), trackOf(2, 0, 0, 1, 2), trackOf(3, 1, 1, 0, 2))
	tracked(t, [][]int64{{1, 1, 2, 2}, {1, 2, 1, 2}, {1, 1, 2, 2}}, trackOf(1, 0, 0, 0, 1, 1, 1), trackOf(2, 0, 0, 1, 2), trackOf(3, 1, 1, 1, 2), trackOf(4, 2, 1, 0, 2))
}

// Overlaps are counted from frame to frame anew.
func TestOverlapsAreForgotten(t *testing.T) {
	tracked(t, [][]int64{{1, 0}, {1, 0}, {0, 1}}, trackOf(1, 0, 0, 0, 1, 1), trackOf(2, 2, 0, 0, 1))
	// Behind a frame in which 2 and 2 met, 2 has as much of 1 as of 2.
	tracked(t, [][]int64{{1, 1, 1, 1, 2}, {1, 1, 1, 1, 2}, {1, 0, 0, 2, 2}, {1, 1, 1, 1, 1}},
		trackOf(1, 0, 0, 3, 1, 1, 1), trackOf(2, 0, 0, 3, 2, 2), trackOf(3, 2, 1, 0, 2, 1))
	tracked(t, [][]int64{{1, 2}, {0, 0}, {1, 2}}, trackOf(1, 0, 0, 0, 1), trackOf(2, 0, 0, 0, 2), trackOf(3, 2, 0, 0, 1), trackOf(4, 2, 0, 0, 2))
}

// others are frames with a storm cell of each number, of which those in frames next to one another never meet.
func others(count int) [][]int64 {
	one := append(riseFrom(1, 60), times(60, int64(0))...)
	two := append(times(60, int64(0)), riseFrom(1, 60)...)
	return times(10, one, two)[:count]
}

func TestFramesAtTheirLimits(t *testing.T) {
	full := append(riseFrom(1, 60), times(516, int64(60))...)
	got, ok := impl.Tracks(times(20, full))
	if !ok || len(got) != 60 {
		t.Fatal(len(got), ok)
	}
	for i, tr := range got {
		if !sameTrack(tr, trackOf(int64(i)+1, 0, 0, 0, times(20, int64(i)+1)...)) {
			t.Fatal(tr)
		}
	}
	if got, ok = impl.Tracks(others(20)); !ok || len(got) != 1200 {
		t.Fatal(len(got), ok)
	}
	for i, tr := range got {
		if !sameTrack(tr, trackOf(int64(i)+1, int64(i)/60, 0, 0, int64(i)%60+1)) {
			t.Fatal(tr)
		}
	}
	if impl.Longest(got) != 1 {
		t.Error(impl.Longest(got))
	}
	long := append(full, 60)
	refusesFrames(t, "577 places", [][]int64{long})
	refusesFrames(t, "577 places of nothing", [][]int64{times(577, int64(0))})
	refusesFrames(t, "577 places behind others", [][]int64{full, long})
	refusesFrames(t, "a number of 61", [][]int64{append(riseFrom(1, 61), 0)})
	refusesFrames(t, "a number of 61, at last", [][]int64{append(riseFrom(1, 60), 0), append(riseFrom(1, 60), 61)})
	refusesFrames(t, "21 frames", times(21, []int64{1}))
	refusesFrames(t, "21 frames of nothing", times(21, []int64{}))
	refusesFrames(t, "many frames", times(1000, []int64{1, 2}))
	tracked(t, times(20, []int64{1}), trackOf(1, 0, 0, 0, times(20, int64(1))...))
	if got, ok = impl.Tracks([][]int64{riseFrom(0, 61)}); !ok || len(got) != 60 {
		t.Error(got, ok)
	}
}

func TestFramesThatAreNotRight(t *testing.T) {
	for _, list := range [][]int64{{-1}, {2}, {61}, {0, 2}, {1, 3}, {3, 2}, {1, 1, 3}, {1, -1}, {-1, 1}, {60}, {math.MinInt64}, {math.MaxInt64}, {1, math.MaxInt64}, {1, 1 << 32}, {0, 0, 59, 60}, riseFrom(2, 59), append(riseFrom(1, 58), 60)} {
		refusesFrames(t, fmt.Sprint(list), [][]int64{list})
		refusesFrames(t, fmt.Sprint(list), [][]int64{times(len(list), int64(1)), list})
		refusesFrames(t, fmt.Sprint(list), [][]int64{list, times(len(list), int64(1))})
		refusesFrames(t, fmt.Sprint(list), [][]int64{times(len(list), int64(0)), list, times(len(list), int64(0))})
	}
	for _, frames := range [][][]int64{{{1}, {1, 1}}, {{1, 1}, {1}}, {{}, {1}}, {{1}, {}}, {{1}, nil}, {{1}, {1}, {1, 0}}, {{1, 0}, {1}, {1, 0}}, {nil, {0}}} {
		refusesFrames(t, fmt.Sprint(frames), frames)
	}
}

// bySize is the number from 1 on with the greatest size, of equal ones the least, 0 when none has any.
func bySize(count int64, size func(n int64) int64) int64 {
	list := riseFrom(1, int(count))
	slices.SortStableFunc(list, func(a, b int64) int { return cmp.Compare(size(b), size(a)) })
	if len(list) == 0 || size(list[0]) == 0 {
		return 0
	}
	return list[0]
}

func countOf(frame []int64) int64 {
	return slices.Max(append(frame[:len(frame):len(frame)], 0))
}

// storm is a storm cell of a frame.
type storm struct {
	frame  int
	number int64
}

// tracksBySteps finds first what goes on with what, in all frames, and goes along the tracks then, one by one.
func tracksBySteps(frames [][]int64) []impl.Track {
	overlap := func(k int, a, b int64) (n int64) {
		for at := range frames[k] {
			if frames[k][at] == a && frames[k+1][at] == b {
				n++
			}
		}
		return n
	}
	parents, heirs, ids := map[storm]int64{}, map[storm]int64{}, map[storm]int64{}
	for k := range len(frames) - 1 {
		before, now := countOf(frames[k]), countOf(frames[k+1])
		for b := int64(1); b <= now; b++ {
			parents[storm{k + 1, b}] = bySize(before, func(a int64) int64 { return overlap(k, a, b) })
		}
		for a := int64(1); a <= before; a++ {
			heirs[storm{k, a}] = bySize(now, func(b int64) int64 {
				if parents[storm{k + 1, b}] != a {
					return 0
				}
				return overlap(k, a, b)
			})
		}
	}
	var tracks []impl.Track
	var lasts []storm
	for k := range frames {
		for n := int64(1); n <= countOf(frames[k]); n++ {
			at := storm{k, n}
			if ids[at] != 0 {
				continue
			}
			tr := trackOf(int64(len(tracks)+1), int64(k), ids[storm{k - 1, parents[at]}], 0)
			for more := true; more; more = heirs[at] > 0 {
				if len(tr.Cells) > 0 {
					at = storm{at.frame + 1, heirs[at]}
				}
				tr.Cells, ids[at] = append(tr.Cells, at.number), tr.Id
			}
			tracks, lasts = append(tracks, tr), append(lasts, at)
		}
	}
	for i, at := range lasts {
		if at.frame < len(frames)-1 {
			into := bySize(countOf(frames[at.frame+1]), func(b int64) int64 { return overlap(at.frame, at.number, b) })
			tracks[i].Into = ids[storm{at.frame + 1, into}]
		}
	}
	return tracks
}

// keepsFourteen holds promise 14 of frames: each storm cell is in one track.
func keepsFourteen(t *testing.T, frames [][]int64) []impl.Track {
	t.Helper()
	tracks, ok := impl.Tracks(frames)
	if want := tracksBySteps(frames); !ok || !slices.EqualFunc(tracks, want, sameTrack) {
		t.Fatalf("Tracks(%v) = %v, %t and not %v", frames, tracks, ok, want)
	}
	in := map[storm]int64{}
	for i, tr := range tracks {
		if tr.Id != int64(i)+1 || len(tr.Cells) == 0 || tr.Split >= tr.Id || tr.Into == tr.Id {
			t.Fatalf("Tracks(%v): %v", frames, tr)
		}
		for k, n := range tr.Cells {
			in[storm{int(tr.From) + k, n}]++
		}
	}
	all := 0
	for k, frame := range frames {
		for n := int64(1); n <= countOf(frame); n++ {
			if all++; in[storm{k, n}] != 1 {
				t.Fatalf("Tracks(%v): %d of frame %d is in %d tracks", frames, n, k, in[storm{k, n}])
			}
		}
	}
	if len(in) != all {
		t.Fatalf("Tracks(%v) have what is not there: %v", frames, tracks)
	}
	return tracks
}

// rightFrame asks for each number up to the greatest by looking for it.
func rightFrame(frame []int64) bool {
	for _, n := range frame {
		if n < 0 || n > 60 || n > 1 && !slices.Contains(frame, n-1) {
			return false
		}
	}
	return true
}

// All frames of a few places that there are, wrong ones too.
func TestAllSmallFrames(t *testing.T) {
	right := 0
	for _, size := range [][3]int{{1, 4, 6}, {2, 4, 3}, {3, 3, 3}, {4, 2, 3}, {2, 3, 4}} {
		all := 1
		for range size[0] * size[1] {
			all *= size[2]
		}
		for which := range all {
			frames, ok := make([][]int64, size[0]), true
			for k := range frames {
				for range size[1] {
					frames[k] = append(frames[k], int64(which%size[2])-int64(size[2]/6))
					which /= size[2]
				}
				ok = ok && rightFrame(frames[k])
			}
			if !ok {
				refusesFrames(t, fmt.Sprint(frames), frames)
				continue
			}
			keepsFourteen(t, frames)
			right++
		}
	}
	if right < 5000 {
		t.Error(right)
	}
}

// rolledFrames have numbers as they fall, those left out being closed up.
func rolledFrames(d *dice) [][]int64 {
	frames := make([][]int64, 1+d.below(7))
	places, most := 1+d.below(24), 1+d.below(6)
	for k := range frames {
		for at := range places {
			if k > 0 && d.below(2) == 0 {
				frames[k] = append(frames[k], frames[k-1][at])
			} else {
				frames[k] = append(frames[k], d.below(most+1))
			}
		}
		for n := int64(1); n <= countOf(frames[k]); {
			if slices.Contains(frames[k], n) {
				n++
				continue
			}
			for at, m := range frames[k] {
				if m > n {
					frames[k][at]--
				}
			}
		}
	}
	return frames
}

func TestRolledFrames(t *testing.T) {
	d := dice(1402)
	came := map[int64]int{}
	for range 8000 {
		for _, tr := range keepsFourteen(t, rolledFrames(&d)) {
			came[min(tr.Split, 1)]++
			came[2+min(tr.Into, 1)]++
			if tr.Split > 0 && tr.Into > 0 {
				came[4]++
			}
			if tr.Into > tr.Id {
				came[5]++
			}
		}
	}
	cameOften(t, came, 0, 1, 2, 3, 4, 5)
}

// Frames as they come from boxes, in which high cells go about.
func TestTracksOfBoxes(t *testing.T) {
	d := dice(1403)
	taken := 0
	for range 150 {
		b := boxOf(3+d.below(22), 3+d.below(22))
		for range b.Rows * b.Cols {
			b.Cells = append(b.Cells, d.below(100))
		}
		var frames [][]int64
		for range 1 + d.below(20) {
			for range d.below(2 + b.Rows*b.Cols/8) {
				b.Cells[d.below(b.Rows*b.Cols)] = d.below(100)
			}
			frames = append(frames, impl.Cells(b, 70))
		}
		if slices.ContainsFunc(frames, func(f []int64) bool { return countOf(f) > 60 }) {
			refusesFrames(t, "more than 60", frames)
			continue
		}
		keepsFourteen(t, frames)
		taken++
	}
	if taken < 50 {
		t.Error(taken)
	}
}

func TestLongest(t *testing.T) {
	for _, c := range []struct {
		want   int64
		tracks []impl.Track
	}{
		{0, nil}, {0, []impl.Track{}}, {1, []impl.Track{trackOf(1, 0, 0, 0, 5)}}, {7, []impl.Track{trackOf(7, 0, 0, 0)}}, {-7, []impl.Track{trackOf(-7, 0, 0, 0)}}, {0, []impl.Track{{}}},
		{2, []impl.Track{trackOf(1, 0, 0, 0, 1), trackOf(2, 0, 0, 0, 1, 2), trackOf(3, 0, 0, 0, 1)}},
		{1, []impl.Track{trackOf(1, 0, 0, 0, 1, 2), trackOf(2, 0, 0, 0, 1, 2), trackOf(3, 0, 0, 0, 1)}},
		{3, []impl.Track{trackOf(1, 0, 0, 0, 1), trackOf(2, 0, 0, 0, 1), trackOf(3, 0, 0, 0, 1, 1)}},
		// The first of the list, not that with the least Id; Cells are counted, whatever they are.
		{9, []impl.Track{trackOf(5, 0, 0, 0, 1), trackOf(9, 0, 0, 0, -8, 70), trackOf(2, 0, 0, 0, 1, 2)}},
		{4, []impl.Track{trackOf(8, 0, 0, 0), trackOf(4, 0, 0, 0, 0), trackOf(3, 0, 0, 0)}},
		{math.MaxInt64, []impl.Track{trackOf(math.MaxInt64, 0, 0, 0, times(1000, int64(1))...)}},
		{6, append(times(1199, trackOf(5, 0, 0, 0, 1)), trackOf(6, 0, 0, 0, 1, 1))},
		{5, times(1200, trackOf(5, 0, 0, 0, 1))}, {0, times(1201, trackOf(5, 0, 0, 0, 1))}, {0, append(times(1200, trackOf(5, 0, 0, 0, 1)), trackOf(6, 0, 0, 0, 1, 1))}, {0, times(5000, trackOf(5, 0, 0, 0, 1))},
	} {
		if got := impl.Longest(c.tracks); got != c.want {
			t.Errorf("Longest(%.200s) = %d and not %d", fmt.Sprint(c.tracks), got, c.want)
		}
	}
}

func moves(t *testing.T, b impl.Box, level int64, next impl.Box, rows, cols int64) {
	t.Helper()
	if i, j, ok := impl.Moved(b, level, next); i != rows || j != cols || !ok {
		t.Errorf("Moved(%v, %d, %v) = %d, %d, %t and not %d, %d", b, level, next, i, j, ok, rows, cols)
	}
}

// spotted is a box of 9 rows and columns whose cells at these places (by how far they lie from its midst) are 1.
func spotted(places ...[2]int64) impl.Box {
	b := boxOf(9, 9, times(81, int64(0))...)
	for _, p := range places {
		b.Cells[(4+p[0])*9+4+p[1]] = 1
	}
	return b
}

func TestMovedByAnyShift(t *testing.T) {
	for i := int64(-4); i <= 4; i++ {
		for j := int64(-4); j <= 4; j++ {
			rows, cols := i, j
			if max(i, -i, j, -j) > 3 {
				rows, cols = 0, 0
			}
			moves(t, spotted([2]int64{0, 0}), 1, spotted([2]int64{i, j}), rows, cols)
		}
	}
	moves(t, boxOf(1, 5, 1, 0, 0, 0, 0), 1, boxOf(1, 5, 0, 0, 0, 1, 0), 0, 3)
	moves(t, boxOf(1, 5, 1, 0, 0, 0, 0), 1, boxOf(1, 5, 0, 0, 0, 0, 1), 0, 0)
	moves(t, boxOf(5, 1, 0, 0, 0, 0, 1), 1, boxOf(5, 1, 0, 1, 0, 0, 0), -3, 0)
	moves(t, boxOf(5, 1, 0, 0, 0, 0, 1), 1, boxOf(5, 1, 1, 0, 0, 0, 0), 0, 0)
	// What leaves the box is gone, and does not come in again at another side, or in the next row.
	moves(t, boxOf(2, 3, 0, 0, 1, 0, 0, 0), 1, boxOf(2, 3, 0, 0, 0, 1, 0, 0), 1, -2)
	moves(t, boxOf(2, 4, 0, 0, 0, 1, 0, 0, 0, 0), 1, boxOf(2, 4, 0, 0, 0, 0, 1, 0, 0, 0), 1, -3)
	moves(t, boxOf(2, 5, 0, 0, 0, 0, 1, 0, 0, 0, 0, 0), 1, boxOf(2, 5, 0, 0, 0, 0, 0, 1, 0, 0, 0, 0), 0, 0)
}

func TestMovedAmongEquals(t *testing.T) {
	here := spotted([2]int64{0, 0})
	all := [][2]int64{{-1, 0}, {0, -1}, {0, 1}, {1, 0}}
	for k := range all {
		moves(t, here, 1, spotted(all[k:]...), all[k][0], all[k][1])
	}
	moves(t, here, 1, spotted(append(all, [2]int64{0, 0})...), 0, 0)
	moves(t, here, 1, spotted([2]int64{-1, -1}, [2]int64{0, 1}), 0, 1)
	moves(t, here, 1, spotted([2]int64{-3, 0}, [2]int64{2, 2}), 2, 2)
	moves(t, here, 1, spotted([2]int64{-2, -2}, [2]int64{3, 0}), -2, -2)
	moves(t, here, 1, spotted([2]int64{-1, 2}, [2]int64{-2, 1}, [2]int64{-1, -2}, [2]int64{2, 1}), -2, 1)
	moves(t, here, 1, spotted([2]int64{-1, 2}, [2]int64{-1, -2}, [2]int64{1, -2}), -1, -2)
	// More cells come ahead of a lesser shift.
	pair := spotted([2]int64{0, 0}, [2]int64{0, 1})
	moves(t, pair, 1, spotted([2]int64{0, 0}, [2]int64{3, 3}, [2]int64{3, 4}), 3, 3)
	moves(t, pair, 1, spotted([2]int64{0, 0}, [2]int64{-3, -3}, [2]int64{-3, -2}), -3, -3)
	moves(t, pair, 1, pair, 0, 0)
}

func TestMovedAtLevels(t *testing.T) {
	first, next := boxOf(1, 4, 5, 7, 0, 0), boxOf(1, 4, 0, 5, 7, 0)
	moves(t, first, 5, next, 0, 1)
	moves(t, first, 6, next, 0, 1)
	moves(t, first, 7, next, 0, 1)
	moves(t, first, 8, next, 0, 0)
	moves(t, first, 1, next, 0, 1)
	moves(t, first, 0, next, 0, 0)
	moves(t, first, math.MinInt64, next, 0, 0)
	moves(t, first, math.MaxInt64, next, 0, 0)
	// One level is that of both.
	moves(t, boxOf(1, 4, 5, 0, 0, 0), 5, boxOf(1, 4, 0, 4, 5, 0), 0, 2)
	moves(t, boxOf(1, 4, 4, 5, 0, 0), 5, boxOf(1, 4, 0, 0, 5, 5), 0, 1)
	// No cell is high in one of the two.
	moves(t, boxOf(2, 2, 9, 9, 9, 9), 9, boxOf(2, 2, 8, 8, 8, 8), 0, 0)
	moves(t, boxOf(2, 2, 8, 8, 8, 8), 9, boxOf(2, 2, 9, 9, 9, 9), 0, 0)
	moves(t, boxOf(1, 1, 1000000000), 1000000000, boxOf(1, 1, 1000000000), 0, 0)
	moves(t, boxOf(1, 2, -1000000000, 1), 1, boxOf(1, 2, 1, -1000000000), 0, -1)
}

func TestMovedOfOtherBoxes(t *testing.T) {
	refuses := func(b, next impl.Box) {
		t.Helper()
		for _, level := range []int64{1, math.MinInt64, math.MaxInt64} {
			if i, j, ok := impl.Moved(b, level, next); i != 0 || j != 0 || ok {
				t.Errorf("Moved(%.60v, %d, %.60v) = %d, %d, %t", fmt.Sprint(b), level, fmt.Sprint(next), i, j, ok)
			}
		}
	}
	one := boxOf(1, 1, 1)
	for _, wrong := range wrongBoxes() {
		refuses(wrong, one)
		refuses(one, wrong)
		refuses(wrong, wrong)
		alike := boxOf(wrong.Rows, wrong.Cols)
		if n := wrong.Rows * wrong.Cols; wrong.Rows > 0 && wrong.Cols > 0 && wrong.Rows < 25 && wrong.Cols < 25 {
			alike.Cells = times(int(n), int64(1))
		}
		refuses(wrong, alike)
		refuses(alike, wrong)
	}
	flat, tall := boxOf(2, 3, 0, 0, 1, 0, 0, 0), boxOf(3, 2, 0, 0, 0, 1, 0, 0)
	refuses(flat, tall)
	refuses(tall, flat)
	refuses(boxOf(1, 4, 1, 0, 0, 0), boxOf(1, 3, 0, 1, 0))
	refuses(boxOf(4, 1, 1, 0, 0, 0), boxOf(3, 1, 0, 1, 0))
	refuses(boxOf(1, 3, 1, 0, 0), boxOf(1, 4, 0, 1, 0, 0))
	refuses(boxOf(2, 2, 1, 0, 0, 0), boxOf(2, 1, 0, 1))
	refuses(boxOf(2, 2, 1, 0, 0, 0), boxOf(1, 2, 0, 1))
}

// movedBySteps puts all shifts in order, and takes the first.
func movedBySteps(b impl.Box, level int64, next impl.Box) (int64, int64) {
	at := func(b impl.Box, i, j int64) bool {
		return i >= 0 && j >= 0 && i < b.Rows && j < b.Cols && b.Cells[i*b.Cols+j] >= level
	}
	var list [][4]int64
	for di := int64(3); di >= -3; di-- {
		for dj := int64(3); dj >= -3; dj-- {
			count := int64(0)
			for i := range b.Rows {
				for j := range b.Cols {
					if at(b, i, j) && at(next, i+di, j+dj) {
						count++
					}
				}
			}
			list = append(list, [4]int64{-count, di*di + dj*dj, di, dj})
		}
	}
	slices.SortFunc(list, func(a, b [4]int64) int { return slices.Compare(a[:], b[:]) })
	return list[0][2], list[0][3]
}

func TestMovedBySteps(t *testing.T) {
	for _, size := range [][2]int64{{1, 5}, {5, 1}, {2, 3}, {3, 2}, {2, 2}} {
		count := size[0] * size[1]
		for which := range 1 << (2 * count) {
			b, next := boxOf(size[0], size[1]), boxOf(size[0], size[1])
			for k := range count {
				b.Cells, next.Cells = append(b.Cells, int64(which>>k&1)), append(next.Cells, int64(which>>(k+count)&1))
			}
			rows, cols := movedBySteps(b, 1, next)
			moves(t, b, 1, next, rows, cols)
		}
	}
	d := dice(1404)
	shifts := map[[2]int64]int{}
	for range 1500 {
		b := boxOf(1+d.below(12), 1+d.below(12))
		if d.below(20) == 0 {
			b = boxOf(24, 24)
		}
		for range b.Rows * b.Cols {
			b.Cells = append(b.Cells, d.below(4))
		}
		next := boxOf(b.Rows, b.Cols, times(len(b.Cells), int64(0))...)
		i, j := d.below(9)-4, d.below(9)-4
		for k, n := range b.Cells {
			row, col := int64(k)/b.Cols+i, int64(k)%b.Cols+j
			if row >= 0 && row < b.Rows && col >= 0 && col < b.Cols && d.below(4) > 0 {
				next.Cells[row*b.Cols+col] = n
			}
		}
		level := d.below(5)
		rows, cols := movedBySteps(b, level, next)
		moves(t, b, level, next, rows, cols)
		shifts[[2]int64{rows, cols}]++
	}
	if len(shifts) != 49 {
		t.Error("some shifts never came", len(shifts))
	}
}
