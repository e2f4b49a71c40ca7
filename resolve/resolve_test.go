package resolve

import (
	"bytes"
	"math"
	"slices"
	"strconv"
	"strings"
	"testing"

	"cordwood/api"
	"cordwood/shape"
)

// widths are how many nodes a tree that is not the empty one may have.
var widths = []int{1, 3, 7, 15, 31, 63, 127}

// far are numbers that are no node of any tree, and no leaf; of some the double runs over into those that are.
var far = []int{math.MinInt, math.MinInt + 1, math.MinInt + 2, math.MinInt + 31, math.MinInt + 63, math.MinInt / 2, math.MinInt/2 + 1, math.MinInt32, -128, -127, -64, -2, -1, 127, 128, 129, 254, 255, 256, 1 << 31, 1<<31 + 1, 1<<32 - 1, 1 << 32, 1<<32 + 2, 1 << 62, 1<<62 + 1, math.MaxInt/2 + 1, math.MaxInt/2 + 2, math.MaxInt - 1, math.MaxInt}

// The blank node, and the one that stands in the room behind a row that is given.
var (
	blank  = api.Node{}
	beyond = api.Node{Kind: -77, Inner: api.Inner{Hash: []byte("beyond")}}
)

// leafOf is a leaf that is another one for each number.
func leafOf(k int) api.Node {
	return api.Node{Kind: api.LeafNode, Leaf: api.Leaf{Enc: []byte{byte(k), 'l'}, Cred: []byte("who"), Source: k%3 + 1}}
}

// innerOf is an inner node that is another one for each number, with these unmerged leaves.
func innerOf(k int, unmerged ...int) api.Node {
	return api.Node{Kind: api.InnerNode, Inner: api.Inner{Enc: []byte{byte(k), 'i'}, Hash: []byte{9}, Unmerged: unmerged}}
}

// spot is where a node stands in a drawn tree: what is above it, the lowest first, its children (-1 of a leaf), and from which node to which one all below it stand.
type spot struct {
	up                       []int
	left, right, least, last int
}

// draw draws a whole tree as halves of halves, by no number's digits.
func draw(w int) map[int]spot {
	out := map[int]spot{}
	var half func(least, last int, up []int) int
	half = func(least, last int, up []int) int {
		x := (least + last) / 2
		s := spot{up, -1, -1, least, last}
		if least < last {
			above := append([]int{x}, up...)
			s.left, s.right = half(least, x-1, above), half(x+1, last, above)
		}
		out[x] = s
		return x
	}
	if w > 0 {
		half(0, w-1, nil)
	}
	return out
}

// drawn are all widths, drawn.
var drawn = func() map[int]map[int]spot {
	out := map[int]map[int]spot{0: {}}
	for _, w := range widths {
		out[w] = draw(w)
	}
	return out
}()

// told is what Resolve is to tell of a node of a tree: from the left, all that are not blank and lie below no other one, each with twice its unmerged leaves.
func told(t []api.Node, x int) []int {
	var out []int
	d := drawn[len(t)]
	s, ok := d[x]
	if !ok {
		return nil
	}
	for y := s.least; y <= s.last; y++ {
		hidden := slices.ContainsFunc(d[y].up, func(z int) bool {
			return s.least <= z && z <= s.last && t[z].Kind != api.Blank
		})
		if t[y].Kind == api.Blank || hidden {
			continue
		}
		out = append(out, y)
		if t[y].Kind == api.InnerNode {
			for _, i := range t[y].Inner.Unmerged {
				out = append(out, i+i)
			}
		}
	}
	return out
}

// forked is what Filter and Beside are to tell of a leaf: the nodes above it of whose other half some node is not blank, and the nodes in the middle of these halves.
func forked(t []api.Node, i int) (way, beside []int) {
	if i < 0 || i >= (len(t)+1)/2 {
		return nil, nil
	}
	d := drawn[len(t)]
	for _, p := range d[2*i].up {
		child := d[p].left
		if 2*i < p {
			child = d[p].right
		}
		half := t[d[child].least : d[child].last+1]
		if slices.ContainsFunc(half, func(n api.Node) bool { return n.Kind != api.Blank }) {
			way, beside = append(way, p), append(beside, child)
		}
	}
	return way, beside
}

// tell tells a row by its nodes, without filling pages.
func tell(t []api.Node) string {
	var b strings.Builder
	for x, n := range t {
		if x == 32 {
			b.WriteString(" ..")
			break
		}
		switch n.Kind {
		case api.Blank:
			b.WriteString(" -")
		case api.LeafNode:
			b.WriteString(" l")
		case api.InnerNode:
			b.WriteString(" i")
			for _, u := range n.Inner.Unmerged {
				b.WriteString("," + strconv.Itoa(u))
			}
		default:
			b.WriteString(" kind " + strconv.Itoa(n.Kind))
		}
	}
	return "[" + b.String() + " ] of " + strconv.Itoa(len(t))
}

// copied are nodes that share no memory with those that are given.
func copied(t []api.Node) []api.Node {
	out := slices.Clone(t)
	for x, n := range out {
		out[x].Leaf.Enc, out[x].Leaf.Cred, out[x].Leaf.Parent = bytes.Clone(n.Leaf.Enc), bytes.Clone(n.Leaf.Cred), bytes.Clone(n.Leaf.Parent)
		out[x].Inner.Enc, out[x].Inner.Hash, out[x].Inner.Unmerged = bytes.Clone(n.Inner.Enc), bytes.Clone(n.Inner.Hash), slices.Clone(n.Inner.Unmerged)
	}
	return out
}

// equal is whether two nodes have the same fields.
func equal(a, b api.Node) bool {
	l, m, i, j := a.Leaf, b.Leaf, a.Inner, b.Inner
	return a.Kind == b.Kind && l.Source == m.Source && bytes.Equal(l.Enc, m.Enc) && bytes.Equal(l.Cred, m.Cred) && bytes.Equal(l.Parent, m.Parent) && bytes.Equal(i.Enc, j.Enc) && bytes.Equal(i.Hash, j.Hash) && slices.Equal(i.Unmerged, j.Unmerged)
}

// roomy is a row with nodes behind it in its memory, and what tells whether all of it is as it was.
func roomy(t []api.Node) ([]api.Node, func() bool) {
	whole := slices.Concat(t, slices.Repeat([]api.Node{beyond}, len(t)+2))
	was := copied(whole)
	return whole[:len(t)], func() bool { return slices.EqualFunc(whole, was, equal) }
}

// checkNode tests what is told of a node of a tree, or of a number that is none.
func checkNode(t *testing.T, row []api.Node, x int) {
	t.Helper()
	if got, want := Resolve(row, x), told(row, x); !slices.Equal(got, want) {
		t.Errorf("Resolve(%s, %d) = %v, want %v", tell(row), x, got, want)
	}
}

// checkLeaf tests what is told of a leaf of a tree, or of a number that is none.
func checkLeaf(t *testing.T, row []api.Node, i int) {
	t.Helper()
	way, beside := Filter(row, i), Beside(row, i)
	wantWay, wantBeside := forked(row, i)
	if !slices.Equal(way, wantWay) || !slices.Equal(beside, wantBeside) {
		t.Errorf("Filter(%s, %d) = %v, Beside %v, want %v, %v", tell(row), i, way, beside, wantWay, wantBeside)
	}
	if len(way) != len(beside) {
		t.Fatalf("Filter(%s, %d) = %v, but Beside %v", tell(row), i, way, beside)
	}
	d := drawn[len(row)]
	for k, x := range beside {
		s := d[way[k]]
		if x != s.left && x != s.right || d[x].least <= 2*i && 2*i <= d[x].last || len(Resolve(row, x)) == 0 {
			t.Errorf("Beside(%s, %d) has %d of %d", tell(row), i, x, way[k])
		}
	}
}

// checkTree tests what is told of all nodes and leaves of a tree, and of numbers beside them, and that the row stays as it was.
func checkTree(t *testing.T, given []api.Node) {
	t.Helper()
	if !shape.Sane(given) {
		t.Fatalf("%s is no tree", tell(given))
	}
	row, untouched := roomy(given)
	for x := -2; x < len(row)+3; x++ {
		checkNode(t, row, x)
	}
	for i := -2; i < len(row)/2+3; i++ {
		checkLeaf(t, row, i)
	}
	if !untouched() {
		t.Errorf("%s became %s", tell(given), tell(row))
	}
}

// build is a tree of so many nodes: of which full tells it, they are not blank, and unmerged tells what the inner ones name.
func build(w int, full func(x int) bool, unmerged func(x int) []int) []api.Node {
	t := make([]api.Node, w)
	for x := range t {
		switch {
		case !full(x):
		case x%2 == 0:
			t[x] = leafOf(x)
		default:
			t[x] = innerOf(x, unmerged(x)...)
		}
	}
	return t
}

// all, evens, odds and never tell places.
func all(int) bool     { return true }
func evens(x int) bool { return x%2 == 0 }
func odds(x int) bool  { return x%2 != 0 }
func never(int) bool   { return false }

// nobody names no unmerged leaf.
func nobody(int) []int { return nil }

// naming are ways to name unmerged leaves in a tree: none, those that are below a node (all, the last one, each second one), those that are not, those that are no leaf of the tree, all that there may be.
func naming(w int) []func(x int) []int {
	d := drawn[w]
	numbers := func(is func(x, i int) bool) func(x int) []int {
		return func(x int) []int {
			var out []int
			for i := range api.MaxLeaves {
				if is(x, i) {
					out = append(out, i)
				}
			}
			return out
		}
	}
	below := func(x, i int) bool { return d[x].least <= 2*i && 2*i <= d[x].last }
	return []func(x int) []int{
		nobody,
		numbers(below),
		numbers(func(x, i int) bool { return 2*i == d[x].last }),
		numbers(func(x, i int) bool { return below(x, i) && i%2 == x/2%2 }),
		numbers(func(x, i int) bool { return 2*i < w && !below(x, i) }),
		numbers(func(x, i int) bool { return 2*i > w && i%3 == x%3 }),
		numbers(func(x, i int) bool { return (i*x+x)%7 == 3 }),
		numbers(func(int, int) bool { return true }),
	}
}

// some are ways to tell which nodes of a width are not blank: none, all, leaves or inner nodes alone, one, all but one, those up to one, those from one on.
func some(w int) []func(x int) bool {
	out := []func(x int) bool{never, all, evens, odds}
	// Of a great tree not each node is tried, but some of each level.
	step := max(1, w/21)
	for at := 0; at < w; at += step {
		out = append(out,
			func(x int) bool { return x == at },
			func(x int) bool { return x != at },
			func(x int) bool { return x <= at },
			func(x int) bool { return x >= at },
			func(x int) bool { return x == at || odds(x) },
			func(x int) bool { return x == at || evens(x) },
			func(x int) bool { return x*x%(at+5) < 2 },
		)
	}
	return out
}

// P11.1, P11.2: trees of each width, with all, some and no nodes, and all that they may name.
func TestTrees(t *testing.T) {
	checkTree(t, nil)
	checkTree(t, []api.Node{})
	for _, w := range widths {
		for k, full := range some(w) {
			for n, unmerged := range naming(w) {
				// Of a great tree each way to name is tried with some ways to be full, and each way to be full with one.
				if w > 15 && k > 3 && k%8 != n {
					continue
				}
				checkTree(t, build(w, full, unmerged))
			}
		}
	}
}

// P11.1, P11.2: all trees of up to four leaves, whose inner nodes are blank, name nobody, name what is below, or name what is not.
func TestSmallTrees(t *testing.T) {
	for _, w := range []int{1, 3, 7} {
		row := make([]api.Node, w)
		d := drawn[w]
		var fill func(x int)
		fill = func(x int) {
			if x == w {
				checkTree(t, row)
				return
			}
			choices := []api.Node{blank, leafOf(x)}
			if odds(x) {
				choices = []api.Node{blank, innerOf(x), innerOf(x, d[x].least/2, d[x].last/2), innerOf(x, 0, w/2+1, 63)}
			}
			for _, n := range choices {
				if n.Kind == api.InnerNode && x == 1 && len(n.Inner.Unmerged) == 2 {
					n.Inner.Unmerged = []int{1}
				}
				row[x] = n
				fill(x + 1)
			}
		}
		fill(0)
	}
}

// P11.1: what is told of nodes, written out.
func TestResolve(t *testing.T) {
	l, i, no := leafOf, innerOf, blank
	for _, c := range []struct {
		row  []api.Node
		want [][]int
	}{
		{[]api.Node{no}, [][]int{{}}},
		{[]api.Node{l(1)}, [][]int{{0}}},
		{[]api.Node{l(1), no, no}, [][]int{{0}, {0}, {}}},
		{[]api.Node{no, no, l(1)}, [][]int{{}, {2}, {2}}},
		{[]api.Node{l(1), no, l(2)}, [][]int{{0}, {0, 2}, {2}}},
		{[]api.Node{l(1), i(2), l(2)}, [][]int{{0}, {1}, {2}}},
		{[]api.Node{no, i(2), no}, [][]int{{}, {1}, {}}},
		{[]api.Node{l(1), i(2, 0), l(2)}, [][]int{{0}, {1, 0}, {2}}},
		{[]api.Node{l(1), i(2, 0, 1, 5, 63), no}, [][]int{{0}, {1, 0, 2, 10, 126}, {}}},
		{[]api.Node{l(0), no, l(2), no, l(4), no, l(6)}, [][]int{{0}, {0, 2}, {2}, {0, 2, 4, 6}, {4}, {4, 6}, {6}}},
		{[]api.Node{l(0), no, l(2), i(3, 2), l(4), no, l(6)}, [][]int{{0}, {0, 2}, {2}, {3, 4}, {4}, {4, 6}, {6}}},
		{[]api.Node{l(0), i(1, 1), l(2), no, l(4), i(5, 2, 3), l(6)}, [][]int{{0}, {1, 2}, {2}, {1, 2, 5, 4, 6}, {4}, {5, 4, 6}, {6}}},
		{[]api.Node{no, i(1), no, no, no, i(5, 0), no}, [][]int{{}, {1}, {}, {1, 5, 0}, {}, {5, 0}, {}}},
		{[]api.Node{l(0), i(1, 3), l(2), no, no, no, no, no, no, no, l(10), no, l(12), i(13, 6), l(14)}, [][]int{{0}, {1, 6}, {2}, {1, 6}, {}, {}, {}, {1, 6, 10, 13, 12}, {}, {10}, {10}, {10, 13, 12}, {12}, {13, 12}, {14}}},
	} {
		for x, want := range c.want {
			if got := Resolve(c.row, x); !slices.Equal(got, want) {
				t.Errorf("Resolve(%s, %d) = %v, want %v", tell(c.row), x, got, want)
			}
		}
	}
}

// P11.2: what is told of leaves, written out.
func TestFilter(t *testing.T) {
	l, i, no := leafOf, innerOf, blank
	eight := func(n func(x int) bool) []api.Node { return build(15, n, nobody) }
	for _, c := range []struct {
		row         []api.Node
		i           int
		way, beside []int
	}{
		{nil, 0, nil, nil}, {[]api.Node{no}, 0, nil, nil}, {[]api.Node{l(1)}, 0, nil, nil}, {[]api.Node{l(1)}, 1, nil, nil},
		{[]api.Node{l(1), no, l(2)}, 0, []int{1}, []int{2}}, {[]api.Node{l(1), no, l(2)}, 1, []int{1}, []int{0}}, {[]api.Node{l(1), no, l(2)}, 2, nil, nil}, {[]api.Node{l(1), no, l(2)}, -1, nil, nil},
		{[]api.Node{l(1), i(2), no}, 0, nil, nil}, {[]api.Node{l(1), i(2, 1), no}, 1, []int{1}, []int{0}}, {[]api.Node{no, i(2), no}, 1, nil, nil},
		{[]api.Node{no, no, no, no, no, i(5), no}, 0, []int{3}, []int{5}}, {[]api.Node{no, no, no, no, no, i(5), no}, 1, []int{3}, []int{5}}, {[]api.Node{no, no, no, no, no, i(5), no}, 2, nil, nil}, {[]api.Node{no, no, no, i(3, 0), no, no, no}, 2, nil, nil},
		{eight(all), 0, []int{1, 3, 7}, []int{2, 5, 11}}, {eight(all), 5, []int{9, 11, 7}, []int{8, 13, 3}}, {eight(all), 7, []int{13, 11, 7}, []int{12, 9, 3}}, {eight(all), 8, nil, nil}, {eight(never), 3, nil, nil},
		{eight(odds), 0, []int{3, 7}, []int{5, 11}}, {eight(odds), 7, []int{11, 7}, []int{9, 3}},
		{eight(func(x int) bool { return x == 14 }), 0, []int{7}, []int{11}}, {eight(func(x int) bool { return x == 14 }), 5, []int{11}, []int{13}}, {eight(func(x int) bool { return x == 14 }), 6, []int{13}, []int{14}}, {eight(func(x int) bool { return x == 14 }), 7, nil, nil},
		{eight(func(x int) bool { return x == 0 || x == 4 }), 1, []int{1, 3}, []int{0, 5}}, {eight(func(x int) bool { return x == 0 || x == 4 }), 0, []int{3}, []int{5}}, {eight(func(x int) bool { return x == 7 }), 4, nil, nil},
	} {
		if way, beside := Filter(c.row, c.i), Beside(c.row, c.i); !slices.Equal(way, c.way) || !slices.Equal(beside, c.beside) {
			t.Errorf("Filter(%s, %d) = %v, Beside %v, want %v, %v", tell(c.row), c.i, way, beside, c.way, c.beside)
		}
	}
}

// P11.1, P11.2: numbers that are no node of a tree, or no leaf, also those of which the double runs over.
func TestNoNodes(t *testing.T) {
	for _, w := range append([]int{0}, widths...) {
		row, untouched := roomy(build(w, all, nobody))
		numbers := append([]int{w, w + 1, 2 * w, 2*w + 1}, far...)
		for i := range (w + 1) / 2 {
			// The doubles of all of these are, cut to an int, those of leaves.
			numbers = append(numbers, math.MinInt+i)
		}
		for _, n := range numbers {
			if n < 0 || n >= w {
				if got := Resolve(row, n); len(got) != 0 {
					t.Errorf("Resolve(%s, %d) = %v", tell(row), n, got)
				}
			}
			if n < 0 || n >= (w+1)/2 {
				if way, beside := Filter(row, n), Beside(row, n); len(way) != 0 || len(beside) != 0 {
					t.Errorf("Filter(%s, %d) = %v, Beside %v", tell(row), n, way, beside)
				}
			}
		}
		if !untouched() {
			t.Errorf("of %d nodes: %s", w, tell(row))
		}
	}
}

// wrongs are nodes that no tree has at some place.
func wrongs() []api.Node {
	l, i := leafOf(1).Leaf, innerOf(1, 2).Inner
	key, over := []byte("k"), make([]byte, 201)
	return []api.Node{
		{Kind: 3}, {Kind: -1}, {Kind: 257, Leaf: l}, {Kind: 1<<32 + 2, Inner: i}, {Kind: 1}, {Kind: 2}, {Leaf: l}, {Inner: i}, {Kind: 1, Leaf: l, Inner: i}, {Kind: 1, Leaf: l, Inner: api.Inner{Unmerged: []int{0}}}, {Kind: 2, Leaf: l, Inner: i},
		{Kind: 1, Leaf: api.Leaf{Enc: over, Source: 1}}, {Kind: 1, Leaf: api.Leaf{Enc: key}}, {Kind: 2, Inner: api.Inner{Enc: over}},
		{Kind: 2, Inner: api.Inner{Enc: key, Unmerged: []int{64}}}, {Kind: 2, Inner: api.Inner{Enc: key, Unmerged: []int{-1}}}, {Kind: 2, Inner: api.Inner{Enc: key, Unmerged: []int{1, 1}}}, {Kind: 2, Inner: api.Inner{Enc: key, Unmerged: []int{2, 1}}}, {Kind: 2, Inner: api.Inner{Enc: key, Unmerged: make([]int, 65)}},
	}
}

// noTrees are rows that are no tree, by each of the things that a tree must be.
func noTrees() [][]api.Node {
	var out [][]api.Node
	for n := range 131 {
		if n > 0 && !slices.Contains(widths, n) {
			out = append(out, make([]api.Node, n), build(n, all, nobody), build(n, evens, nobody))
		}
	}
	out = append(out, make([]api.Node, 255), build(255, evens, nobody), build(511, all, nobody))
	for _, w := range widths {
		for _, x := range []int{0, w / 2, w - 1} {
			misplaced := leafOf(x)
			if evens(x) {
				misplaced = innerOf(x)
			}
			for _, n := range append(wrongs(), misplaced) {
				for _, full := range []func(int) bool{all, evens, never} {
					row := build(w, full, nobody)
					row[x] = n
					out = append(out, row)
				}
			}
		}
	}
	return out
}

// R5, P1: what is no tree counts as the empty one in each call.
func TestNoTrees(t *testing.T) {
	for _, given := range noTrees() {
		if shape.Sane(given) {
			t.Fatalf("%s is a tree", tell(given))
		}
		row, untouched := roomy(given)
		n := len(row)
		for _, x := range append([]int{0, 1, 2, 3, 5, n / 4, n / 2, n/2 + 1, n - 1, n}, far...) {
			if a, b, c := Resolve(row, x), Filter(row, x), Beside(row, x); len(a) != 0 || len(b) != 0 || len(c) != 0 {
				t.Errorf("of %d in %s: Resolve %v, Filter %v, Beside %v", x, tell(given), a, b, c)
			}
		}
		if !untouched() {
			t.Errorf("%s became %s", tell(given), tell(row))
		}
	}
}

// P11.3: where all are known, the root's Resolve is the root, and each other node's is itself; so it is for the root where nobody but the root is known.
func TestAllKnown(t *testing.T) {
	for _, w := range widths {
		root := w / 2
		row := build(w, all, nobody)
		for x := range row {
			if got := Resolve(row, x); !slices.Equal(got, []int{x}) {
				t.Errorf("Resolve(%s, %d) = %v", tell(row), x, got)
			}
		}
		alone := build(w, func(x int) bool { return x == root }, nobody)
		if got := Resolve(alone, root); !slices.Equal(got, []int{root}) {
			t.Errorf("Resolve(%s, %d) = %v", tell(alone), root, got)
		}
	}
}

// P11.2: where all are known, a leaf's way up is filtered of nothing.
func TestWholeWays(t *testing.T) {
	for _, w := range widths {
		row := build(w, all, nobody)
		for i := range (w + 1) / 2 {
			if got, want := Filter(row, i), drawn[w][2*i].up; !slices.Equal(got, want) {
				t.Errorf("Filter(%s, %d) = %v, want %v", tell(row), i, got, want)
			}
		}
	}
}

// The chapter's example: of leaf, blank, leaf, blank, blank, blank, leaf.
func TestExample(t *testing.T) {
	row := []api.Node{leafOf(1), blank, leafOf(2), blank, blank, blank, leafOf(3)}
	if a, b, c := Resolve(row, 3), Filter(row, 3), Beside(row, 3); !slices.Equal(a, []int{0, 2, 6}) || !slices.Equal(b, []int{3}) || !slices.Equal(c, []int{1}) {
		t.Errorf("%v, %v, %v", a, b, c)
	}
}

// What is told shares nothing with the row, nor with what was told ahead.
func TestNewMemory(t *testing.T) {
	row, untouched := roomy(build(15, func(x int) bool { return x != 7 }, naming(15)[1]))
	for n := range 15 {
		calls := []func() []int{
			func() []int { return Resolve(row, n) },
			func() []int { return Filter(row, n%8) },
			func() []int { return Beside(row, n%8) },
		}
		for _, call := range calls {
			first, was := call(), call()
			for k := range first {
				first[k] = -9
			}
			_ = append(first, -9)
			if again := call(); !slices.Equal(again, was) || slices.Contains(was, -9) {
				t.Errorf("of %d in %s: %v became %v", n, tell(row), was, again)
			}
		}
	}
	if !untouched() {
		t.Errorf("%s", tell(row))
	}
}

// What is told hangs on the arguments alone: asked again, also with others asked between, the same is told.
func TestAskedAgain(t *testing.T) {
	for _, w := range widths {
		fulls := some(w)
		for k, full := range fulls {
			row, other := build(w, full, naming(w)[k%8]), build(w, fulls[(k*31+7)%len(fulls)], nobody)
			x, i := k%w, k%((w+1)/2)
			a, b, c := Resolve(row, x), Filter(row, i), Beside(row, i)
			Resolve(other, x)
			Filter(other, i)
			Beside(nil, i)
			if d, e, f := Resolve(copied(row), x), Filter(copied(row), i), Beside(copied(row), i); !slices.Equal(a, d) || !slices.Equal(b, e) || !slices.Equal(c, f) {
				t.Fatalf("of %s: %v, %v, %v, then %v, %v, %v", tell(row), a, b, c, d, e, f)
			}
		}
	}
}

// P1, R5, P11.1, P11.2: rows of any nodes, by an octet each, are told as the chapter says, or count as the empty tree.
func FuzzRows(f *testing.F) {
	for _, s := range []string{"", "\x00", "\x01", "\x01\x00\x01", "\x01\x01\x00", "\x01\x00\x01\x00\x00\x00\x01", "\x01\x05\x01\x00\x02\x09\x00", "\x01\x01", "\x00\x00\x80", "\x00\x07\x01\x00\x00\x06\x01\x00\x01\x00\x00\x00\x00\x05\x01", strings.Repeat("\x00\x03\x01\x00\x00", 26)[:127]} {
		f.Add([]byte(s), 0)
		f.Add([]byte(s), 3)
		f.Add([]byte(s), math.MinInt+1)
	}
	bad := wrongs()
	f.Fuzz(func(t *testing.T, b []byte, x int) {
		// Of longer rows there is nothing new to tell.
		b = b[:min(len(b), 300)]
		names := naming(127)
		var row []api.Node
		for at, octet := range b {
			k, n := int(octet), blank
			switch {
			case k >= 128:
				n = bad[k%len(bad)]
			case k%4 == 0:
			case evens(at):
				n = leafOf(k)
			default:
				n = innerOf(k, names[k/4%8](at%127)...)
			}
			row = append(row, n)
		}
		if shape.Sane(row) {
			checkTree(t, row)
			checkNode(t, row, x)
			checkLeaf(t, row, x)
			return
		}
		if a, b, c := Resolve(row, x), Filter(row, x), Beside(row, x); len(a) != 0 || len(b) != 0 || len(c) != 0 {
			t.Errorf("of %d in %s: %v, %v, %v", x, tell(row), a, b, c)
		}
	})
}
