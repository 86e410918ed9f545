package tests

import (
	"fmt"
	"math"
	"slices"
	"testing"

	"loop.example/g00051/impl"
)

func TestContourNumbers(t *testing.T) {
	if impl.MaxLoop != 2000 {
		t.Error(impl.MaxLoop)
	}
}

func boxOf(rows, cols int64, cells ...int64) impl.Box {
	return impl.Box{Rows: rows, Cols: cols, Cells: cells}
}

func loopOf(x, y int64, dirs ...int64) impl.Loop {
	return impl.Loop{X: x, Y: y, Dirs: dirs}
}

func sameLoop(a, b impl.Loop) bool {
	return a.X == b.X && a.Y == b.Y && slices.Equal(a.Dirs, b.Dirs)
}

// drawn is a box whose cells are 1 where a letter stands, else 0. The row that is written last is row 0: north is up.
func drawn(rows ...string) impl.Box {
	b := boxOf(int64(len(rows)), int64(len(rows[0])))
	for i := len(rows) - 1; i >= 0; i-- {
		for _, r := range rows[i] {
			b.Cells = append(b.Cells, map[rune]int64{'#': 1}[r])
		}
	}
	return b
}

func wrongBoxes() []impl.Box {
	list := []impl.Box{
		{}, boxOf(0, 1), boxOf(1, 0), boxOf(0, 1, 1), boxOf(1, 0, 1), boxOf(-1, -1, 1), boxOf(1, 1), boxOf(1, 1, 5, 5), boxOf(2, 3, 1, 1, 1, 1, 1), boxOf(2, 3, 1, 1, 1, 1, 1, 1, 1), boxOf(3, 2),
		boxOf(25, 1, times(25, int64(1))...), boxOf(1, 25, times(25, int64(1))...), boxOf(25, 25, times(625, int64(1))...), boxOf(24, 24, times(575, int64(1))...), boxOf(24, 24, times(577, int64(1))...),
		boxOf(1, 1, 1000000001), boxOf(1, 1, -1000000001), boxOf(1, 2, 1, 1000000001), boxOf(1, 2, -1000000001, 1), boxOf(1, 1, math.MaxInt64), boxOf(1, 1, math.MinInt64),
		boxOf(1<<32, 1<<32), boxOf(1<<62, 4), boxOf(4, 1<<62), boxOf(1<<63-1, 1<<63-1, 1), boxOf(1<<32+1, 1<<32-1), boxOf(math.MinInt64, 2), boxOf(2, math.MinInt64), boxOf(math.MinInt64, math.MinInt64),
	}
	return append(list, impl.Box{Rows: 24, Cols: 24, Cells: append(times(575, int64(1)), 1000000001)})
}

func TestBoxesThatAreNotRight(t *testing.T) {
	for _, b := range wrongBoxes() {
		if impl.BoxOk(b) {
			t.Error(b.Rows, b.Cols, len(b.Cells), "is not right")
		}
		for _, level := range []int64{1, math.MinInt64, math.MaxInt64} {
			if loops := impl.Contours(b, level); len(loops) != 0 {
				t.Error(b.Rows, b.Cols, len(b.Cells), loops)
			}
		}
	}
}

func TestBoxesThatAreRight(t *testing.T) {
	for _, b := range []impl.Box{
		boxOf(1, 1, 0), boxOf(1, 1, 1000000000), boxOf(1, 1, -1000000000), boxOf(1, 24, times(24, int64(1))...), boxOf(24, 1, times(24, int64(1))...), boxOf(24, 24, times(576, int64(-1000000000))...), boxOf(2, 3, 1, 2, 3, 4, 5, 6),
	} {
		if !impl.BoxOk(b) {
			t.Error(b, "is right")
		}
	}
}

func contours(t *testing.T, b impl.Box, level int64, want ...impl.Loop) {
	t.Helper()
	if got := impl.Contours(b, level); !slices.EqualFunc(got, want, sameLoop) {
		t.Errorf("Contours(%v, %d) = %v and not %v", b, level, got, want)
	}
}

func TestOneCell(t *testing.T) {
	square := loopOf(0, 0, 0, 1, 2, 3)
	contours(t, boxOf(1, 1, 5), 5, square)
	contours(t, boxOf(1, 1, 5), 6)
	contours(t, boxOf(1, 1, 5), 4, square)
	contours(t, boxOf(1, 1, 5), math.MinInt64, square)
	contours(t, boxOf(1, 1, 5), math.MaxInt64)
	contours(t, boxOf(1, 1, 1000000000), 1000000000, square)
	contours(t, boxOf(1, 1, 1000000000), 1000000001)
	contours(t, boxOf(1, 1, -1000000000), -1000000000, square)
	contours(t, boxOf(1, 1, -1000000000), -999999999)
	contours(t, boxOf(1, 1, 0), 0, square)
	contours(t, boxOf(1, 1, -1), 0)
}

func TestKnownContours(t *testing.T) {
	contours(t, boxOf(2, 3, 0, 0, 0, 0, 0, 0), 1)
	contours(t, boxOf(2, 3, 1, 1, 1, 1, 1, 1), 1, loopOf(0, 0, 0, 0, 0, 1, 1, 2, 2, 2, 3, 3))
	// Rows are counted from the south on, and stand one behind the other.
	contours(t, boxOf(2, 3, 0, 0, 7, 0, 0, 0), 7, loopOf(2, 0, 0, 1, 2, 3))
	contours(t, boxOf(2, 3, 0, 0, 0, 7, 0, 0), 7, loopOf(0, 1, 0, 1, 2, 3))
	contours(t, drawn("#.", "##"), 1, loopOf(0, 0, 0, 0, 1, 2, 1, 2, 3, 3))
	contours(t, drawn("##", ".#"), 1, loopOf(1, 0, 0, 1, 1, 2, 2, 3, 0, 3))
	// Two cells apart, one of them ahead by its Y, and then by its X.
	contours(t, drawn("#..", "...", "..#"), 1, loopOf(2, 0, 0, 1, 2, 3), loopOf(0, 2, 0, 1, 2, 3))
	contours(t, drawn("#.#"), 1, loopOf(0, 0, 0, 1, 2, 3), loopOf(2, 0, 0, 1, 2, 3))
}

// Cells that touch at a corner alone stay apart, either way.
func TestCellsThatTouch(t *testing.T) {
	contours(t, drawn(".#", "#."), 1, loopOf(0, 0, 0, 1, 2, 3), loopOf(1, 1, 0, 1, 2, 3))
	contours(t, drawn("#.", ".#"), 1, loopOf(1, 0, 0, 1, 2, 3), loopOf(0, 1, 0, 1, 2, 3))
	contours(t, drawn("#.#", ".#.", "#.#"), 1, loopOf(0, 0, 0, 1, 2, 3), loopOf(2, 0, 0, 1, 2, 3), loopOf(1, 1, 0, 1, 2, 3), loopOf(0, 2, 0, 1, 2, 3), loopOf(2, 2, 0, 1, 2, 3))
	// A hole that touches the outside at a corner is gone into from there, as the high cells are those that stay apart.
	contours(t, drawn("##.", "#.#", "###"), 1, loopOf(0, 0, 0, 0, 0, 1, 1, 2, 3, 2, 1, 0, 1, 2, 2, 3, 3, 3))
	contours(t, drawn(".##", "#.#", "###"), 1, loopOf(0, 0, 0, 0, 0, 1, 1, 1, 2, 2, 3, 0, 3, 2, 1, 2, 3, 3))
}

// Holes are gone round the other way; those that touch at a corner are gone round together, as it is the high cells that stay apart there.
func TestHoles(t *testing.T) {
	square := loopOf(0, 0, 0, 0, 0, 0, 1, 1, 1, 1, 2, 2, 2, 2, 3, 3, 3, 3)
	contours(t, drawn("###", "#.#", "###"), 1, loopOf(0, 0, 0, 0, 0, 1, 1, 1, 2, 2, 2, 3, 3, 3), loopOf(1, 1, 1, 0, 3, 2))
	contours(t, drawn("####", "##.#", "#.##", "####"), 1, square, loopOf(1, 1, 1, 0, 1, 0, 3, 2, 3, 2))
	contours(t, drawn("####", "#.##", "##.#", "####"), 1, square, loopOf(2, 1, 1, 2, 1, 0, 3, 0, 3, 2))
	contours(t, drawn("####", "#..#", "####"), 1, loopOf(0, 0, 0, 0, 0, 0, 1, 1, 1, 2, 2, 2, 2, 3, 3, 3), loopOf(1, 1, 1, 0, 0, 3, 2, 2))
	// A hole at the box's edge is none.
	contours(t, drawn("#.#", "###"), 1, loopOf(0, 0, 0, 0, 0, 1, 1, 2, 3, 2, 1, 2, 3, 3))
}

func TestLoopsWithinLoops(t *testing.T) {
	loops := impl.Contours(drawn("#######", "#.....#", "#.###.#", "#.#.#.#", "#.###.#", "#.....#", "#######"), 1)
	var told []int64
	for _, l := range loops {
		told = append(told, l.X, l.Y, int64(len(l.Dirs)), impl.Area(l), impl.Winds(l, 3, 3), impl.Winds(l, 2, 3), impl.Winds(l, 1, 3), impl.Winds(l, 0, 3))
	}
	if !slices.Equal(told, []int64{0, 0, 28, 49, 1, 1, 1, 1, 1, 1, 20, -25, -1, -1, -1, 0, 2, 2, 12, 9, 1, 1, 0, 0, 3, 3, 4, -1, -1, 0, 0, 0}) {
		t.Error(told)
	}
}

// contoursBySteps goes by the chapter's words with what is left in a table, asked for the first from its beginning each time.
func contoursBySteps(b impl.Box, level int64) []impl.Loop {
	isHigh := func(i, j int64) bool {
		return i >= 0 && j >= 0 && i < b.Rows && j < b.Cols && b.Cells[i*b.Cols+j] >= level
	}
	var left [26][26][4]bool
	for i := range b.Rows + 1 {
		for j := range b.Cols + 1 {
			// What lies to the north-east, north-west, south-west and south-east of the corner.
			ne, nw, sw, se := isHigh(i, j), isHigh(i, j-1), isHigh(i-1, j-1), isHigh(i-1, j)
			left[i][j] = [4]bool{ne && !se, nw && !ne, sw && !nw, se && !sw}
		}
	}
	var loops []impl.Loop
	for y := range int64(26) {
		for x := range int64(26) {
			for dir := range int64(4) {
				if left[y][x][dir] {
					loops = append(loops, loopOf(x, y, followed(&left, x, y, dir)...))
				}
			}
		}
	}
	return loops
}

func followed(left *[26][26][4]bool, x, y, dir int64) []int64 {
	var dirs []int64
	for {
		left[y][x][dir] = false
		dirs = append(dirs, dir)
		x += []int64{1, 0, -1, 0}[dir]
		y += []int64{0, 1, 0, -1}[dir]
		switch here := left[y][x]; {
		case here[(dir+1)%4]:
			dir = (dir + 1) % 4
		case here[dir]:
		case here[(dir+3)%4]:
			dir = (dir + 3) % 4
		default:
			return dirs
		}
	}
}

// keepsTwelve holds promise 12 of a box: the loops close, go once round each high cell and round no other, and have the cells' area.
func keepsTwelve(t *testing.T, b impl.Box, level int64) {
	t.Helper()
	loops := impl.Contours(b, level)
	if want := contoursBySteps(b, level); !slices.EqualFunc(loops, want, sameLoop) {
		t.Fatalf("Contours(%v, %d) = %v and not %v", b, level, loops, want)
	}
	area := int64(0)
	for _, l := range loops {
		if !impl.Closed(l) || len(l.Dirs) == 0 {
			t.Fatalf("Contours(%v, %d): %v does not close", b, level, l)
		}
		area += impl.Area(l)
	}
	cells := int64(0)
	for i := int64(-1); i <= b.Rows; i++ {
		for j := int64(-1); j <= b.Cols; j++ {
			round, want := int64(0), int64(0)
			for _, l := range loops {
				round += impl.Winds(l, i, j)
			}
			if i >= 0 && j >= 0 && i < b.Rows && j < b.Cols && b.Cells[i*b.Cols+j] >= level {
				want = 1
			}
			if round != want {
				t.Fatalf("Contours(%v, %d) go %d times round (%d, %d)", b, level, round, i, j)
			}
			cells += want
		}
	}
	if area != cells {
		t.Fatalf("Contours(%v, %d) have the area %d, and %d cells are high", b, level, area, cells)
	}
}

// Promise 12, of all the boxes of a few cells that there are.
func TestAllSmallBoxes(t *testing.T) {
	for _, size := range [][2]int64{{1, 1}, {1, 6}, {6, 1}, {2, 2}, {2, 5}, {5, 2}, {3, 3}, {3, 4}, {4, 3}} {
		count := size[0] * size[1]
		for which := range 1 << count {
			b := boxOf(size[0], size[1])
			for k := range count {
				b.Cells = append(b.Cells, int64(which>>k&1))
			}
			keepsTwelve(t, b, 1)
		}
	}
}

// Promise 12, of some greater ones, at levels that their numbers just meet.
func TestRolledBoxes(t *testing.T) {
	d := dice(1201)
	for range 400 {
		b := boxOf(1+d.below(24), 1+d.below(24))
		span := []int64{2, 3, 7, 2000000001}[d.below(4)]
		for range b.Rows * b.Cols {
			b.Cells = append(b.Cells, d.below(span)-span/2)
		}
		keepsTwelve(t, b, d.below(span)-span/2)
		keepsTwelve(t, b, b.Cells[d.below(int64(len(b.Cells)))])
	}
}

func TestGreatestBoxes(t *testing.T) {
	// Every second cell is high, as on a board: the most sides that a box has.
	board := boxOf(24, 24)
	for k := range int64(576) {
		board.Cells = append(board.Cells, (k+k/24)%2)
	}
	keepsTwelve(t, board, 1)
	if loops := impl.Contours(board, 1); len(loops) != 288 {
		t.Error(len(loops))
	}
	keepsTwelve(t, boxOf(24, 24, times(576, int64(1000000000))...), 1000000000)
	// A comb has one long loop: 48 sides below and above, 2 at the ends of its back, 46 along each of 12 teeth.
	comb := boxOf(24, 24, times(576, int64(1))...)
	for k := range comb.Cells {
		if k%2 == 1 && k >= 24 {
			comb.Cells[k] = 0
		}
	}
	keepsTwelve(t, comb, 1)
	if loops := impl.Contours(comb, 1); len(loops) != 1 || len(loops[0].Dirs) != 602 {
		t.Error(len(loops))
	}
}

// windsOnly asks of the cells all about the loop, and of those farthest off.
func windsOnly(t *testing.T, l impl.Loop, i, j, want int64) {
	t.Helper()
	rows := append(riseFrom(i-3, 7), math.MinInt64, math.MinInt64+1, math.MaxInt64-1, math.MaxInt64)
	cols := append(riseFrom(j-3, 7), math.MinInt64, math.MinInt64+1, math.MaxInt64-1, math.MaxInt64)
	for _, row := range rows {
		for _, col := range cols {
			wanted := int64(0)
			if row == i && col == j {
				wanted = want
			}
			if got := impl.Winds(l, row, col); got != wanted {
				t.Fatalf("Winds(%v, %d, %d) = %d and not %d", l, row, col, got, wanted)
			}
		}
	}
}

// Whichever way a loop of four sets out, it goes round the cell on its left, or round that on its right the other way.
func TestLoopsRoundOneCell(t *testing.T) {
	leftRow, leftCol := []int64{0, 0, -1, -1}, []int64{0, -1, -1, 0}
	rightRow, rightCol := []int64{-1, 0, 0, -1}, []int64{0, 0, -1, -1}
	for first := range int64(4) {
		for _, x := range []int64{-1000000, -999999, -3, 0, 1, 8, 1000000} {
			for _, y := range []int64{-1000000, -999999, -2, 0, 1, 9, 1000000} {
				round := loopOf(x, y, first, (first+1)%4, (first+2)%4, (first+3)%4)
				other := loopOf(x, y, first, (first+3)%4, (first+2)%4, (first+1)%4)
				if impl.Area(round) != 1 || impl.Area(other) != -1 || !impl.Closed(round) || !impl.Closed(other) {
					t.Fatal(round, other)
				}
				windsOnly(t, round, y+leftRow[first], x+leftCol[first], 1)
				windsOnly(t, other, y+rightRow[first], x+rightCol[first], -1)
			}
		}
	}
}

func TestLoopsThatCrossThemselves(t *testing.T) {
	thrice := loopOf(4, 4, times(3, []int64{0, 0, 1, 1, 2, 2, 3, 3}...)...)
	if impl.Area(thrice) != 12 || impl.Winds(thrice, 5, 5) != 3 || impl.Winds(thrice, 4, 6) != 0 || !impl.Closed(thrice) {
		t.Error(impl.Area(thrice), impl.Winds(thrice, 5, 5))
	}
	eight := loopOf(0, 0, 0, 1, 0, 1, 2, 3, 2, 3)
	if impl.Area(eight) != 2 || impl.Winds(eight, 0, 0) != 1 || impl.Winds(eight, 1, 1) != 1 {
		t.Error(impl.Area(eight))
	}
	// Crossed, a figure of eight goes round its cells either way, and has no area in all.
	crossed := loopOf(0, 0, 0, 1, 1, 0, 3, 2, 2, 3)
	if impl.Area(crossed) != 0 || impl.Winds(crossed, 0, 0) != 1 || impl.Winds(crossed, 1, 1) != -1 || !impl.Closed(crossed) {
		t.Error(impl.Area(crossed))
	}
}

// What does not close is summed all the same.
func TestOpenLoops(t *testing.T) {
	for _, c := range []struct {
		l       impl.Loop
		area    int64
		i, j    int64
		round   int64
		closing bool
	}{
		{loopOf(7, 5), 0, 5, 6, 0, true}, {loopOf(7, 5, 0), 0, 5, 6, 0, false}, {loopOf(7, 5, 2), 0, 5, 6, 0, false},
		{loopOf(7, 5, 1), 7, 5, 6, 1, false}, {loopOf(7, 5, 1), 7, 5, 7, 0, false}, {loopOf(7, 5, 1), 7, 4, 6, 0, false}, {loopOf(7, 5, 1), 7, 6, 6, 0, false},
		{loopOf(7, 5, 3), -7, 4, 6, -1, false}, {loopOf(7, 5, 3), -7, 4, 7, 0, false}, {loopOf(7, 5, 3), -7, 5, 6, 0, false}, {loopOf(7, 5, 3), -7, 3, 6, 0, false},
		{loopOf(7, 5, 1), 7, 5, math.MinInt64, 1, false}, {loopOf(7, 5, 3), -7, 4, math.MinInt64, -1, false}, {loopOf(7, 5, 1), 7, 5, math.MaxInt64, 0, false}, {loopOf(7, 5, 3), -7, math.MaxInt64, 6, 0, false}, {loopOf(7, 5, 3), -7, math.MinInt64, 6, 0, false},
		{loopOf(-7, 5, 1, 1), -14, 6, -8, 1, false}, {loopOf(7, 0, 1, 1, 0, 3), 6, 0, 6, 1, false}, {loopOf(7, 0, 1, 1, 0, 3), 6, 1, 6, 0, false}, {loopOf(7, 0, 1, 1, 0, 3), 6, 1, 7, -1, false},
		{loopOf(3, 3, 1, 3), 0, 3, 2, 0, true}, {loopOf(3, 3, 0, 2), 0, 3, 2, 0, true}, {loopOf(3, 3, 2, 0), 0, 3, 2, 0, true}, {loopOf(3, 3, 0, 1, 2), 4, 3, 3, 1, false}, {loopOf(3, 3, 0, 1, 3), 0, 3, 3, 0, false}, {loopOf(3, 3, 0, 1, 2, 3, 0), 1, 3, 3, 1, false},
	} {
		if impl.Area(c.l) != c.area || impl.Winds(c.l, c.i, c.j) != c.round || impl.Closed(c.l) != c.closing {
			t.Errorf("%v: %d, %d, %t", c, impl.Area(c.l), impl.Winds(c.l, c.i, c.j), impl.Closed(c.l))
		}
	}
}

func TestLoopsAtTheirLimits(t *testing.T) {
	up, down := times(2000, int64(1)), times(2000, int64(3))
	for _, c := range []struct {
		l    impl.Loop
		area int64
		i    int64
	}{
		{loopOf(1000000, 0, up...), 2000000000, 1999}, {loopOf(-1000000, 0, down...), 2000000000, -2000}, {loopOf(1000000, 1000000, up...), 2000000000, 1001999}, {loopOf(-1000000, -1000000, up...), -2000000000, -1000000}, {loopOf(1000000, -1000000, down...), -2000000000, -1002000},
	} {
		want := int64(1)
		if c.l.Dirs[0] == 3 {
			want = -1
		}
		if impl.Area(c.l) != c.area || impl.Winds(c.l, c.i, -1000001) != want || impl.Closed(c.l) {
			t.Error(c.l.X, c.l.Y, impl.Area(c.l), impl.Winds(c.l, c.i, -1000001))
		}
	}
	full := loopOf(1000000, 1000000, append(times(1000, int64(0)), times(1000, int64(2))...)...)
	if !impl.Closed(full) {
		t.Error("2000 Dirs that close")
	}
}

// wrongLoops have forms that are not let pass, though most would close and go round a cell.
func wrongLoops() []impl.Loop {
	list := []impl.Loop{
		loopOf(1, 1, times(2001, int64(1))...), loopOf(1, 1, slices.Concat([]int64{0, 1, 2, 3}, times(999, int64(0), int64(2)))...), loopOf(1, 1, -1), loopOf(1, 1, 4), loopOf(1, 1, 0, 1, 2, 3, -1), loopOf(1, 1, 0, 1, 2, 3, 4), loopOf(1, 1, 4, 0, 1, 2, 3), loopOf(1, 1, math.MinInt64), loopOf(1, 1, math.MaxInt64), loopOf(1, 1, 0, 5, 2, 7),
	}
	for _, n := range []int64{-1000001, 1000001, math.MinInt64, math.MaxInt64} {
		list = append(list, loopOf(n, 1), loopOf(1, n), loopOf(n, n), loopOf(n, 1, 0, 1, 2, 3), loopOf(1, n, 0, 1, 2, 3), loopOf(n, n, 0, 1, 2, 3))
	}
	return list
}

func TestLoopsThatAreWrong(t *testing.T) {
	for _, l := range wrongLoops() {
		if impl.Area(l) != 0 || impl.Closed(l) {
			t.Errorf("%.60v: %d, %t", fmt.Sprint(l), impl.Area(l), impl.Closed(l))
		}
		for _, at := range [][2]int64{{1, 1}, {1, 0}, {l.Y, l.X}, {l.Y, -2000000}, {1, math.MinInt64}} {
			if impl.Winds(l, at[0], at[1]) != 0 {
				t.Errorf("%.60v goes round %v", fmt.Sprint(l), at)
			}
		}
	}
}
