package index

import (
	"math"
	"slices"
	"testing"
)

// widths are all there are.
var widths = []int{1, 3, 7, 15, 31, 63, 127}

// far are numbers that are neither a width nor a node of one, those beside the bounds of all integer kinds among them.
var far = []int{-1, -2, -3, -64, -127, -128, -129, 127, 128, 254, 255, 256, 511, 1023, math.MinInt16, math.MaxInt16, math.MaxUint16, math.MinInt32, math.MaxInt32, 1<<32 - 1, 1 << 32, 1<<32 + 7, 1 << 62, math.MinInt, math.MinInt + 1, math.MinInt + 7, math.MaxInt - 1, math.MaxInt}

// nodeless are pairs of which Is is false: no width, whatever x is, and all that is beside the nodes of a width.
func nodeless() [][2]int {
	var out [][2]int
	for w := -3; w <= 300; w++ {
		if slices.Contains(widths, w) {
			out = append(out, [2]int{-1, w}, [2]int{w, w}, [2]int{w + 1, w}, [2]int{2 * w, w}, [2]int{2*w + 1, w})
			for _, x := range far {
				if x < 0 || x >= w {
					out = append(out, [2]int{x, w})
				}
			}
			continue
		}
		for _, x := range []int{-1, 0, 1, 2, 3, 5, w / 2, w - 1, w, math.MinInt, math.MaxInt} {
			out = append(out, [2]int{x, w})
		}
	}
	for _, w := range far {
		if w == 127 {
			continue
		}
		for _, x := range []int{math.MinInt, -1, 0, 1, 63, 126, 127, w, math.MaxInt} {
			out = append(out, [2]int{x, w})
		}
	}
	return out
}

// kin is what stands around a node: -1 for none.
type kin struct{ left, right, parent, sibling int }

// slowKin draws a whole tree as halves of halves, by no number's digits: what stands around each of its nodes.
func slowKin(w int) map[int]kin {
	out := map[int]kin{}
	var draw func(least, width, parent, sibling int)
	draw = func(least, width, parent, sibling int) {
		half := (width - 1) / 2
		x := least + half
		if width == 1 {
			out[x] = kin{-1, -1, parent, sibling}
			return
		}
		below := (half - 1) / 2
		left, right := least+below, x+1+below
		out[x] = kin{left, right, parent, sibling}
		draw(least, half, x, right)
		draw(x+1, half, x, left)
	}
	draw(0, w, -1, -1)
	return out
}

// slowLevel is how often x can be halved behind one more.
func slowLevel(x int) int {
	if x < 0 || x > 126 {
		return -1
	}
	k := 0
	for more := x + 1; more%2 == 0; more /= 2 {
		k++
	}
	return k
}

// power is 2 to the power of k, told without moving bits.
func power(k int) int {
	p := 1
	for range k {
		p *= 2
	}
	return p
}

// asked is what the package tells around a node.
func asked(x, w int) kin {
	return kin{Left(x, w), Right(x, w), Parent(x, w), Sibling(x, w)}
}

// P5.1: Whole of each width, and of each number beside them.
func TestWhole(t *testing.T) {
	for _, w := range widths {
		if !Whole(w) {
			t.Errorf("Whole(%d) is false", w)
		}
		for _, beside := range []int{w - 1, w + 1, -w} {
			if Whole(beside) {
				t.Errorf("Whole(%d) is true", beside)
			}
		}
	}
	for n := -1000; n <= 5000; n++ {
		if Whole(n) != slices.Contains(widths, n) {
			t.Errorf("Whole(%d) is %t", n, Whole(n))
		}
	}
	for _, n := range append([]int{0, 2, 5, 6, 8, 255}, far...) {
		if n != 127 && Whole(n) {
			t.Errorf("Whole(%d) is true", n)
		}
	}
}

// P5.1: no number of ones alone is a width but those that the chapter names.
func TestWholeOnes(t *testing.T) {
	for k := range 63 {
		if w := 1<<k - 1; Whole(w) != (k >= 1 && k <= 7) {
			t.Errorf("Whole(%d) is %t", w, Whole(w))
		}
	}
}

// P5.1: Is of the first and the last node of each width, of all between, and of what is beside them.
func TestIs(t *testing.T) {
	for _, w := range widths {
		if !Is(0, w) || !Is(w-1, w) {
			t.Errorf("width %d: the first node is %t, the last one %t", w, Is(0, w), Is(w-1, w))
		}
		if Is(-1, w) || Is(w, w) {
			t.Errorf("width %d: -1 is %t, %d is %t", w, Is(-1, w), w, Is(w, w))
		}
		for x := -300; x <= 300; x++ {
			if Is(x, w) != (0 <= x && x <= w-1) {
				t.Errorf("Is(%d, %d) is %t", x, w, Is(x, w))
			}
		}
	}
	for _, p := range nodeless() {
		if Is(p[0], p[1]) {
			t.Errorf("Is(%d, %d) is true", p[0], p[1])
		}
	}
}

// P5.1: Level of each number up to 126, and of those that have none.
func TestLevel(t *testing.T) {
	for x, want := range map[int]int{-1: -1, 0: 0, 1: 1, 2: 0, 3: 2, 4: 0, 5: 1, 6: 0, 7: 3, 11: 2, 15: 4, 23: 3, 31: 5, 47: 4, 62: 0, 63: 6, 64: 0, 95: 5, 111: 4, 119: 3, 123: 2, 125: 1, 126: 0, 127: -1, 128: -1, 191: -1, 255: -1} {
		if got := Level(x); got != want {
			t.Errorf("Level(%d) = %d, want %d", x, got, want)
		}
	}
	for x := -300; x <= 1000; x++ {
		if got, want := Level(x), slowLevel(x); got != want {
			t.Errorf("Level(%d) = %d, want %d", x, got, want)
		}
	}
	for _, x := range far {
		if got := Level(x); got != -1 {
			t.Errorf("Level(%d) = %d", x, got)
		}
	}
}

// P5.2: Root of each width is half of w - 1, and -1 where Whole is false.
func TestRoot(t *testing.T) {
	for i, want := range []int{0, 1, 3, 7, 15, 31, 63} {
		if got := Root(widths[i]); got != want {
			t.Errorf("Root(%d) = %d, want %d", widths[i], got, want)
		}
	}
	for w := -300; w <= 1000; w++ {
		if !slices.Contains(widths, w) && Root(w) != -1 {
			t.Errorf("Root(%d) = %d", w, Root(w))
		}
	}
	for _, w := range far {
		if w != 127 && Root(w) != -1 {
			t.Errorf("Root(%d) = %d", w, Root(w))
		}
	}
}

// P5.2: what the chapter's examples say, and what stands around each node of the widths 1, 3 and 7, written out.
func TestSmallWidths(t *testing.T) {
	for _, s := range []struct {
		w    int
		want []kin
	}{
		{1, []kin{{-1, -1, -1, -1}}},
		{3, []kin{{-1, -1, 1, 2}, {0, 2, -1, -1}, {-1, -1, 1, 0}}},
		{7, []kin{{-1, -1, 1, 2}, {0, 2, 3, 5}, {-1, -1, 1, 0}, {1, 5, -1, -1}, {-1, -1, 5, 6}, {4, 6, 3, 1}, {-1, -1, 5, 4}}},
	} {
		for x, want := range s.want {
			if got := asked(x, s.w); got != want {
				t.Errorf("width %d, node %d: %v, want %v", s.w, x, got, want)
			}
		}
	}
	if Root(7) != 3 || Left(3, 7) != 1 || Right(3, 7) != 5 || Parent(4, 7) != 5 || Sibling(4, 7) != 6 {
		t.Errorf("the example is told as %d, %d, %d, %d, %d", Root(7), Left(3, 7), Right(3, 7), Parent(4, 7), Sibling(4, 7))
	}
}

// P5.2: Left and Right of every node of every width: x less, x more 2 to the power of k - 1, and -1 of a leaf.
func TestChildren(t *testing.T) {
	for _, w := range widths {
		for x := range w {
			left, right := -1, -1
			if k := slowLevel(x); k > 0 {
				left, right = x-power(k-1), x+power(k-1)
			}
			if got := Left(x, w); got != left {
				t.Errorf("Left(%d, %d) = %d, want %d", x, w, got, left)
			}
			if got := Right(x, w); got != right {
				t.Errorf("Right(%d, %d) = %d, want %d", x, w, got, right)
			}
			if leaf := x%2 == 0; leaf != (Left(x, w) == -1) || leaf != (Right(x, w) == -1) {
				t.Errorf("width %d, node %d: the children are %d and %d", w, x, Left(x, w), Right(x, w))
			}
		}
	}
}

// P5.2: Parent and Sibling of every node of every width, and -1 of the root.
func TestParentAndSibling(t *testing.T) {
	for _, w := range widths {
		for x := range w {
			parent, sibling := -1, -1
			if x != (w-1)/2 {
				k := slowLevel(x)
				if x/power(k+1)%2 == 0 {
					parent, sibling = x+power(k), x+2*power(k)
				} else {
					parent, sibling = x-power(k), x-2*power(k)
				}
			}
			if got := Parent(x, w); got != parent {
				t.Errorf("Parent(%d, %d) = %d, want %d", x, w, got, parent)
			}
			if got := Sibling(x, w); got != sibling {
				t.Errorf("Sibling(%d, %d) = %d, want %d", x, w, got, sibling)
			}
		}
	}
}

// P5.2, Words: below each node stand all on its left up to some number, and as many on its right.
func TestDrawn(t *testing.T) {
	for _, w := range widths {
		drawn := slowKin(w)
		if len(drawn) != w {
			t.Fatalf("width %d: %d nodes are drawn", w, len(drawn))
		}
		for x, want := range drawn {
			if got := asked(x, w); got != want {
				t.Errorf("width %d, node %d: %v, want %v", w, x, got, want)
			}
		}
	}
}

// P5.2: a node that is the root of one width has a parent, a sibling in a greater one; its children are the same.
func TestRootsOfSmallerWidths(t *testing.T) {
	for i, w := range widths {
		for _, small := range widths[:i] {
			x := (small - 1) / 2
			if got, want := asked(x, w), (kin{Left(x, small), Right(x, small), small, x + small + 1}); got != want {
				t.Errorf("width %d, node %d: %v, want %v", w, x, got, want)
			}
		}
	}
}

// P5.2, P1: all tell -1 where Is is false, whatever the numbers are.
func TestNoNode(t *testing.T) {
	for _, p := range nodeless() {
		if got := asked(p[0], p[1]); got != (kin{-1, -1, -1, -1}) {
			t.Errorf("width %d, node %d: %v", p[1], p[0], got)
		}
	}
}

// P5.3: who goes down comes back up, and who goes aside and aside again is where he was.
func TestDownAndUp(t *testing.T) {
	for _, w := range widths {
		for x := 1; x < w; x += 2 {
			left, right := Left(x, w), Right(x, w)
			if !Is(left, w) || !Is(right, w) || left >= x || right <= x {
				t.Fatalf("width %d, node %d: the children are %d and %d", w, x, left, right)
			}
			if Parent(left, w) != x || Parent(right, w) != x {
				t.Errorf("width %d, node %d: up from %d is %d, up from %d is %d", w, x, left, Parent(left, w), right, Parent(right, w))
			}
			if Sibling(left, w) != right || Sibling(right, w) != left {
				t.Errorf("width %d, node %d: beside %d is %d, beside %d is %d", w, x, left, Sibling(left, w), right, Sibling(right, w))
			}
			if Level(left) != Level(x)-1 || Level(right) != Level(x)-1 {
				t.Errorf("width %d, node %d: the children's levels are %d and %d", w, x, Level(left), Level(right))
			}
		}
	}
}

// P5.3: each node but the root is one child of its parent, and of no other node; the root is the child of none.
func TestOneChild(t *testing.T) {
	for _, w := range widths {
		of := map[int][]int{}
		for x := range w {
			for _, child := range []int{Left(x, w), Right(x, w)} {
				if child != -1 {
					of[child] = append(of[child], x)
				}
			}
		}
		for x := range w {
			var want []int
			if x != Root(w) {
				want = []int{Parent(x, w)}
			}
			if !slices.Equal(of[x], want) {
				t.Errorf("width %d: node %d is a child of %d, want %d", w, x, of[x], want)
			}
		}
	}
}

// P5.3: up from each node is the root, behind as many steps as its level is below the root's.
func TestUpToTheRoot(t *testing.T) {
	for _, w := range widths {
		for x := range w {
			at := x
			for range Level(Root(w)) - Level(x) {
				at = Parent(at, w)
			}
			if at != Root(w) || Parent(at, w) != -1 {
				t.Errorf("width %d: up from node %d is %d", w, x, at)
			}
		}
	}
}

// P1, P5.1, P5.2: whatever the numbers are, all calls end and tell what the chapter says.
func FuzzNode(f *testing.F) {
	for _, w := range append(slices.Clone(widths), far...) {
		for _, x := range []int{-1, 0, 1, w / 2, w - 1, w, math.MinInt, math.MaxInt} {
			f.Add(x, w)
		}
	}
	f.Fuzz(func(t *testing.T, x, w int) {
		whole := slices.Contains(widths, w)
		if Whole(w) != whole || Is(x, w) != (whole && x >= 0 && x < w) || Level(x) != slowLevel(x) {
			t.Fatalf("%d, %d: Whole is %t, Is is %t, Level is %d", x, w, Whole(w), Is(x, w), Level(x))
		}
		root, want := -1, kin{-1, -1, -1, -1}
		if whole {
			root = (w - 1) / 2
		}
		if whole && x >= 0 && x < w {
			want = slowKin(w)[x]
		}
		if got := asked(x, w); got != want || Root(w) != root {
			t.Fatalf("%d, %d: %v, want %v; the root is %d, want %d", x, w, got, want, Root(w), root)
		}
	})
}
