package walk

import (
	"math"
	"slices"
	"testing"
)

// widths are all there are.
var widths = []int{1, 3, 7, 15, 31, 63, 127}

// far are numbers that are no node of any width, those beside the bounds of all integer kinds among them.
var far = []int{math.MinInt, math.MinInt + 1, math.MinInt + 7, math.MinInt32, math.MinInt16, -128, -127, -64, -3, -2, -1, 127, 128, 254, 255, 256, 511, 1023, math.MaxInt16, math.MaxUint16, math.MaxInt32, 1<<32 - 1, 1 << 32, 1<<32 + 7, 1 << 62, math.MaxInt - 1, math.MaxInt}

// outside are numbers that are no node of a width.
func outside(w int) []int {
	out := []int{w, w + 1, 2 * w, 2*w + 1}
	for _, x := range far {
		if x < 0 || x >= w {
			out = append(out, x)
		}
	}
	return out
}

// noWidths are numbers that are no width, all up to 300 and those far away.
func noWidths() []int {
	var out []int
	for w := -3; w <= 300; w++ {
		if !slices.Contains(widths, w) {
			out = append(out, w)
		}
	}
	for _, w := range far {
		if w != 127 {
			out = append(out, w)
		}
	}
	return out
}

// nodeless are pairs x, w of which x is no node of w.
func nodeless() [][2]int {
	var out [][2]int
	for _, w := range widths {
		for _, x := range outside(w) {
			out = append(out, [2]int{x, w})
		}
	}
	for _, w := range noWidths() {
		for _, x := range []int{math.MinInt, -1, 0, 1, 2, 3, 5, 63, 126, 127, w / 2, w - 1, w, math.MaxInt} {
			out = append(out, [2]int{x, w})
		}
	}
	return out
}

// place is where a node stands in a drawn tree: what is above it, the lowest first, what is beside its way, and from which node to which one all below it stand.
type place struct {
	up, beside  []int
	least, last int
}

// draw draws a whole tree as halves of halves, by no number's digits.
func draw(w int) map[int]place {
	out := map[int]place{}
	var half func(least, last int, up, beside []int)
	half = func(least, last int, up, beside []int) {
		x := (least + last) / 2
		out[x] = place{up, beside, least, last}
		if least == last {
			return
		}
		left, right := (least+x-1)/2, (x+1+last)/2
		above := append([]int{x}, up...)
		half(least, x-1, above, append([]int{right}, beside...))
		half(x+1, last, above, append([]int{left}, beside...))
	}
	half(0, w-1, nil, nil)
	return out
}

// holds: does a node stand among those that are below another one, or is it that one?
func (p place) holds(x int) bool { return p.least <= x && x <= p.last }

// lowest is the node of a drawn tree that holds both, and below which the fewest stand.
func lowest(drawn map[int]place, x, y int) int {
	out := -1
	for at, p := range drawn {
		if p.holds(x) && p.holds(y) && (out == -1 || p.last-p.least < drawn[out].last-drawn[out].least) {
			out = at
		}
	}
	return out
}

// checkNothing is what all calls tell of an x that is no node.
func checkNothing(t *testing.T, x, w int) {
	t.Helper()
	if got := Direct(x, w); len(got) != 0 {
		t.Errorf("Direct(%d, %d) = %v", x, w, got)
	}
	if got := Copath(x, w); len(got) != 0 {
		t.Errorf("Copath(%d, %d) = %v", x, w, got)
	}
	if first, last := Below(x, w); first != -1 || last != -1 {
		t.Errorf("Below(%d, %d) = %d, %d", x, w, first, last)
	}
	checkNoPair(t, x, x, w)
}

// checkNoPair is what is told of two of which one is no node, whichever stands first.
func checkNoPair(t *testing.T, x, y, w int) {
	t.Helper()
	for _, p := range [][2]int{{x, y}, {y, x}} {
		if Under(p[0], p[1], w) {
			t.Errorf("Under(%d, %d, %d) is true", p[0], p[1], w)
		}
		if got := Common(p[0], p[1], w); got != -1 {
			t.Errorf("Common(%d, %d, %d) = %d", p[0], p[1], w, got)
		}
	}
}

// The chapter's example.
func TestExample(t *testing.T) {
	if got := Direct(4, 7); !slices.Equal(got, []int{5, 3}) {
		t.Errorf("Direct(4, 7) = %v", got)
	}
	if got := Copath(4, 7); !slices.Equal(got, []int{6, 1}) {
		t.Errorf("Copath(4, 7) = %v", got)
	}
	if got := Common(0, 2, 7); got != 1 {
		t.Errorf("Common(0, 2, 7) = %d", got)
	}
	if first, last := Below(5, 7); first != 2 || last != 3 {
		t.Errorf("Below(5, 7) = %d, %d", first, last)
	}
}

// P6.1, P6.2: all that is told of each node of the widths 1, 3 and 7, written out.
func TestSmallWidths(t *testing.T) {
	for _, s := range []struct {
		x, w           int
		direct, copath []int
		first, last    int
	}{
		{0, 1, nil, nil, 0, 0},
		{0, 3, []int{1}, []int{2}, 0, 0},
		{1, 3, nil, nil, 0, 1},
		{2, 3, []int{1}, []int{0}, 1, 1},
		{0, 7, []int{1, 3}, []int{2, 5}, 0, 0},
		{1, 7, []int{3}, []int{5}, 0, 1},
		{2, 7, []int{1, 3}, []int{0, 5}, 1, 1},
		{3, 7, nil, nil, 0, 3},
		{4, 7, []int{5, 3}, []int{6, 1}, 2, 2},
		{5, 7, []int{3}, []int{1}, 2, 3},
		{6, 7, []int{5, 3}, []int{4, 1}, 3, 3},
	} {
		if got := Direct(s.x, s.w); !slices.Equal(got, s.direct) {
			t.Errorf("Direct(%d, %d) = %v, want %v", s.x, s.w, got, s.direct)
		}
		if got := Copath(s.x, s.w); !slices.Equal(got, s.copath) {
			t.Errorf("Copath(%d, %d) = %v, want %v", s.x, s.w, got, s.copath)
		}
		if first, last := Below(s.x, s.w); first != s.first || last != s.last {
			t.Errorf("Below(%d, %d) = %d, %d, want %d, %d", s.x, s.w, first, last, s.first, s.last)
		}
	}
}

// P6.1: Direct and Copath of every node of every width, in order, from the lowest one up.
func TestWays(t *testing.T) {
	for _, w := range widths {
		drawn := draw(w)
		if len(drawn) != w {
			t.Fatalf("width %d: %d nodes are drawn", w, len(drawn))
		}
		for x := range w {
			if got := Direct(x, w); !slices.Equal(got, drawn[x].up) {
				t.Errorf("Direct(%d, %d) = %v, want %v", x, w, got, drawn[x].up)
			}
			if got := Copath(x, w); !slices.Equal(got, drawn[x].beside) {
				t.Errorf("Copath(%d, %d) = %v, want %v", x, w, got, drawn[x].beside)
			}
		}
	}
}

// P6.1: of the root there is no way up, and nothing stands beside it; the root ends the way of each other node, and stands beside none.
func TestRoot(t *testing.T) {
	for _, w := range widths {
		root := (w - 1) / 2
		if up, beside := Direct(root, w), Copath(root, w); len(up) != 0 || len(beside) != 0 {
			t.Errorf("width %d: the way of the root is %v, beside it is %v", w, up, beside)
		}
		for x := range w {
			if x == root {
				continue
			}
			up, beside := Direct(x, w), Copath(x, w)
			if len(up) == 0 || up[len(up)-1] != root || len(beside) != len(up) || slices.Contains(beside, root) {
				t.Errorf("width %d, node %d: the way is %v, beside it is %v", w, x, up, beside)
			}
		}
	}
}

// P6.1, P6.2, P1: nothing is told of what is no node, whatever the numbers are.
func TestNoNode(t *testing.T) {
	for _, p := range nodeless() {
		checkNothing(t, p[0], p[1])
	}
}

// P6.1, P6.2, P1: false and -1 of two of which one alone is a node, whichever it is, and of two of which none is.
func TestNoPair(t *testing.T) {
	for _, w := range widths {
		for _, y := range outside(w) {
			for x := range w {
				checkNoPair(t, x, y, w)
			}
			for _, x := range outside(w) {
				checkNoPair(t, x, y, w)
			}
		}
	}
	for _, w := range noWidths() {
		for _, x := range []int{math.MinInt, -1, 0, 1, 2, w / 2, w - 1, math.MaxInt} {
			for _, y := range []int{math.MinInt, -1, 0, 1, 3, w / 2, w - 1, math.MaxInt} {
				checkNoPair(t, x, y, w)
			}
		}
	}
}

// P6.2: Under of every two nodes of every width, by the chapter's words and by the drawn tree.
func TestUnder(t *testing.T) {
	for _, w := range widths {
		drawn := draw(w)
		for x := range w {
			for y := range w {
				got := Under(x, y, w)
				if got != (x == y || slices.Contains(Direct(x, w), y)) || got != drawn[y].holds(x) {
					t.Errorf("Under(%d, %d, %d) is %t", x, y, w, got)
				}
			}
		}
	}
}

// P6.2: Common of every two nodes of every width is the lowest node of the drawn tree that holds both.
func TestCommon(t *testing.T) {
	for _, w := range widths {
		drawn := draw(w)
		for x := range w {
			for y := range x + 1 {
				want := lowest(drawn, x, y)
				if got := Common(x, y, w); got != want {
					t.Errorf("Common(%d, %d, %d) = %d, want %d", x, y, w, got, want)
				}
				if got := Common(y, x, w); got != want {
					t.Errorf("Common(%d, %d, %d) = %d, want %d", y, x, w, got, want)
				}
			}
		}
	}
}

// P6.2: both are under Common, and not both under one child of it.
func TestCommonIsLowest(t *testing.T) {
	for _, w := range widths {
		for x := range w {
			for y := range w {
				at := Common(x, y, w)
				if !Under(x, at, w) || !Under(y, at, w) {
					t.Errorf("width %d: not both, %d and %d, are under %d", w, x, y, at)
				}
				for low := range w {
					if low != at && Under(low, at, w) && Under(x, low, w) && Under(y, low, w) {
						t.Errorf("width %d: %d and %d are under %d, below %d", w, x, y, low, at)
					}
				}
			}
		}
	}
}

// P6.2: of a node and itself, and of a node and one above it: the one above it is Common, and Under is true one way round alone.
func TestItselfAndAbove(t *testing.T) {
	for _, w := range widths {
		for x := range w {
			if !Under(x, x, w) || Common(x, x, w) != x {
				t.Errorf("width %d, node %d: Under is %t, Common is %d", w, x, Under(x, x, w), Common(x, x, w))
			}
			for _, above := range draw(w)[x].up {
				if !Under(x, above, w) || Under(above, x, w) {
					t.Errorf("width %d: %d under %d is %t, and back it is %t", w, x, above, Under(x, above, w), Under(above, x, w))
				}
				if Common(x, above, w) != above || Common(above, x, w) != above {
					t.Errorf("width %d: Common of %d and %d is %d, and back it is %d", w, x, above, Common(x, above, w), Common(above, x, w))
				}
			}
		}
	}
}

// P6.2: Below of every node of every width: a leaf's own place, all leaves of the root, and else the least and the greatest of the leaves under it.
func TestBelow(t *testing.T) {
	for _, w := range widths {
		drawn := draw(w)
		for x := range w {
			first, last := Below(x, w)
			if first != drawn[x].least/2 || last != drawn[x].last/2 {
				t.Errorf("Below(%d, %d) = %d, %d, want %d, %d", x, w, first, last, drawn[x].least/2, drawn[x].last/2)
			}
			for leaf := 0; leaf < w; leaf += 2 {
				if Under(leaf, x, w) != (first <= leaf/2 && leaf/2 <= last) {
					t.Errorf("width %d: leaf %d under %d is %t, but below are %d to %d", w, leaf/2, x, Under(leaf, x, w), first, last)
				}
			}
		}
		if first, last := Below((w-1)/2, w); first != 0 || last != (w-1)/2 {
			t.Errorf("width %d: below the root are %d to %d", w, first, last)
		}
	}
}

// P6.3: what stands beside the way of a leaf has all other leaves below it, each once.
func TestBesideAllOthers(t *testing.T) {
	for _, w := range widths {
		for x := 0; x < w; x += 2 {
			seen := make([]int, (w+1)/2)
			for _, at := range Copath(x, w) {
				first, last := Below(at, w)
				for leaf := first; leaf <= last; leaf++ {
					seen[leaf]++
				}
			}
			for leaf, n := range seen {
				want := 1
				if leaf == x/2 {
					want = 0
				}
				if n != want {
					t.Errorf("width %d, beside leaf %d: leaf %d stands %d times", w, x/2, leaf, n)
				}
			}
		}
	}
}

// P6.1: what was told stays as it is when what was told of others, or told again, is changed.
func TestOwnMemory(t *testing.T) {
	for _, tell := range []func(int, int) []int{Direct, Copath} {
		kept := tell(2, 127)
		want := slices.Clone(kept)
		for _, other := range [][]int{tell(0, 127), tell(2, 127)} {
			for i := range other {
				other[i] = -9
			}
			_ = append(other, -9)
		}
		if !slices.Equal(kept, want) || !slices.Equal(tell(2, 127), want) {
			t.Errorf("%v, and %v, want %v", kept, tell(2, 127), want)
		}
	}
}

// A way that is gone again is the same, and one that is left behind few steps is gone no further.
func TestUp(t *testing.T) {
	way := up(4, 15)
	for range 2 {
		if got := slices.Collect(way); !slices.Equal(got, []int{4, 5, 3, 7}) {
			t.Errorf("up of 4 is %v", got)
		}
	}
	steps := 0
	for at := range way {
		steps++
		if at == 5 {
			break
		}
	}
	if steps != 2 {
		t.Errorf("left behind %d steps", steps)
	}
}

// P1, P6.1, P6.2: whatever the numbers are, all calls end and tell what the chapter says.
func FuzzWalk(f *testing.F) {
	for _, w := range append(slices.Clone(widths), far...) {
		for _, x := range []int{-1, 0, 1, w / 2, w - 1, w, math.MinInt, math.MaxInt} {
			f.Add(x, w/2, w)
			f.Add(x, 2, w)
		}
	}
	f.Fuzz(func(t *testing.T, x, y, w int) {
		whole := slices.Contains(widths, w)
		if !whole || x < 0 || x >= w {
			checkNothing(t, x, w)
			checkNoPair(t, x, y, w)
			return
		}
		drawn := draw(w)
		first, last := Below(x, w)
		if !slices.Equal(Direct(x, w), drawn[x].up) || !slices.Equal(Copath(x, w), drawn[x].beside) || first != drawn[x].least/2 || last != drawn[x].last/2 {
			t.Fatalf("%d, %d: the way is %v, beside it is %v, below are %d to %d", x, w, Direct(x, w), Copath(x, w), first, last)
		}
		if y < 0 || y >= w {
			checkNoPair(t, x, y, w)
			return
		}
		if Under(x, y, w) != drawn[y].holds(x) || Common(x, y, w) != lowest(drawn, x, y) {
			t.Fatalf("%d, %d, %d: Under is %t, Common is %d", x, y, w, Under(x, y, w), Common(x, y, w))
		}
	})
}
