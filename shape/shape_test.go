package shape

import (
	"bytes"
	"math"
	"slices"
	"strconv"
	"strings"
	"testing"

	"cordwood/api"
)

// widths are how many nodes a tree that is not the empty one may have.
var widths = []int{1, 3, 7, 15, 31, 63, 127}

// far are numbers that are no node of any tree, and no leaf; of some the double runs over into those that are.
var far = []int{math.MinInt, math.MinInt + 1, math.MinInt + 2, math.MinInt + 63, math.MinInt / 2, math.MinInt/2 + 1, math.MinInt32, -128, -127, -64, -2, -1, 127, 128, 129, 254, 255, 256, 1 << 31, 1<<32 - 1, 1 << 32, 1<<32 + 2, 1 << 62, 1<<62 + 1, math.MaxInt - 1, math.MaxInt}

// The blank node, and the one that stands in the room behind a row that is given.
var (
	blank  = api.Node{}
	beyond = api.Node{Kind: -77, Inner: api.Inner{Hash: []byte("beyond")}}
)

// leafOf is a leaf that is another one for each number.
func leafOf(k int) api.Node {
	return api.Node{Kind: api.LeafNode, Leaf: api.Leaf{Enc: []byte{byte(k), 'l'}, Cred: []byte("who"), Source: k%3 + 1}}
}

// innerOf is an inner node that is another one for each number.
func innerOf(k int) api.Node {
	return api.Node{Kind: api.InnerNode, Inner: api.Inner{Enc: []byte{byte(k), 'i'}, Hash: []byte{9}, Unmerged: []int{k % 64}}}
}

// ofPlace is a node that is not blank and may stand at a place.
func ofPlace(x int) api.Node {
	if x%2 == 0 {
		return leafOf(x)
	}
	return innerOf(x)
}

// ofOther is a node that may not stand at a place.
func ofOther(x int) api.Node {
	if x%2 == 0 {
		return innerOf(x)
	}
	return leafOf(x)
}

// drawn is a row of so many nodes, with those not blank of which full tells it.
func drawn(w int, full func(x int) bool) []api.Node {
	t := make([]api.Node, w)
	for x := range t {
		if full(x) {
			t[x] = ofPlace(x)
		}
	}
	return t
}

// all, evens and odds tell places.
func all(int) bool     { return true }
func evens(x int) bool { return x%2 == 0 }
func odds(x int) bool  { return x%2 != 0 }

// wrong is a node with which something is wrong, and what node.Check tells of it.
type wrong struct {
	n api.Node
	e api.Errno
}

// wrongs are nodes with each thing wrong.
func wrongs() []wrong {
	key, over := []byte("k"), make([]byte, 201)
	l, i := leafOf(1).Leaf, innerOf(1).Inner
	out := []wrong{
		{api.Node{Kind: 3}, api.ErrKind}, {api.Node{Kind: -1}, api.ErrKind}, {api.Node{Kind: 257, Leaf: l}, api.ErrKind}, {api.Node{Kind: 1<<32 + 2, Inner: i}, api.ErrKind}, {api.Node{Kind: math.MinInt}, api.ErrKind},
		{api.Node{Leaf: l}, api.ErrForm}, {api.Node{Inner: i}, api.ErrForm}, {api.Node{Kind: 1, Leaf: l, Inner: i}, api.ErrForm}, {api.Node{Kind: 2, Leaf: l, Inner: i}, api.ErrForm}, {api.Node{Kind: 1, Inner: i}, api.ErrForm}, {api.Node{Kind: 2, Leaf: l}, api.ErrForm},
		{api.Node{Kind: 1}, api.ErrEmpty}, {api.Node{Kind: 2}, api.ErrEmpty},
	}
	for _, x := range []struct {
		l api.Leaf
		e api.Errno
	}{{api.Leaf{Source: 1}, api.ErrEmpty}, {api.Leaf{Enc: over, Source: 1}, api.ErrLarge}, {api.Leaf{Enc: key, Cred: over, Source: 1}, api.ErrLarge}, {api.Leaf{Enc: key}, api.ErrKind}, {api.Leaf{Enc: key, Source: 4}, api.ErrKind}, {api.Leaf{Enc: key, Source: 2, Parent: key}, api.ErrForm}} {
		out = append(out, wrong{api.Node{Kind: 1, Leaf: x.l}, x.e})
	}
	for _, x := range []struct {
		i api.Inner
		e api.Errno
	}{{api.Inner{Hash: key}, api.ErrEmpty}, {api.Inner{Enc: over}, api.ErrLarge}, {api.Inner{Enc: key, Unmerged: make([]int, 65)}, api.ErrLarge}, {api.Inner{Enc: key, Unmerged: []int{64}}, api.ErrRange}, {api.Inner{Enc: key, Unmerged: []int{-1}}, api.ErrRange}, {api.Inner{Enc: key, Unmerged: []int{1, 1}}, api.ErrUnmerged}} {
		out = append(out, wrong{api.Node{Kind: 2, Inner: x.i}, x.e})
	}
	return out
}

// rights are nodes with which nothing is wrong, of each kind, at the bounds of what they may say.
func rights() []api.Node {
	var every []int
	for k := range 64 {
		every = append(every, k)
	}
	most := bytes.Repeat([]byte{7}, 200)
	return []api.Node{
		blank, {Leaf: api.Leaf{Enc: []byte{}, Cred: []byte{}, Parent: []byte{}}, Inner: api.Inner{Enc: []byte{}, Hash: []byte{}, Unmerged: []int{}}},
		leafOf(200), {Kind: 1, Leaf: api.Leaf{Enc: []byte{0}, Source: 2}}, {Kind: 1, Leaf: api.Leaf{Enc: most, Cred: most, Source: 3, Parent: most}, Inner: api.Inner{Unmerged: []int{}}},
		innerOf(200), {Kind: 2, Inner: api.Inner{Enc: []byte{0}}}, {Kind: 2, Inner: api.Inner{Enc: most, Hash: most, Unmerged: every}, Leaf: api.Leaf{Cred: []byte{}}},
	}
}

// noTrees are rows that are no tree, by each of the things that a tree must be, in each width.
func noTrees() [][]api.Node {
	var out [][]api.Node
	for n := range 131 {
		if n > 0 && !slices.Contains(widths, n) {
			out = append(out, make([]api.Node, n), drawn(n, all), drawn(n, evens))
		}
	}
	for _, n := range []int{255, 511, 1023, 1<<16 - 1, 1 << 16} {
		out = append(out, make([]api.Node, n))
	}
	for _, w := range widths {
		bad := []api.Node{{Kind: 3}, {Kind: 1}, {Kind: 2}, {Leaf: leafOf(1).Leaf}, {Inner: innerOf(1).Inner}}
		for _, x := range []int{0, w / 2, w - 1} {
			for _, n := range append(bad, ofOther(x)) {
				out = append(out, with(drawn(w, all), x, n), with(make([]api.Node, w), x, n))
			}
		}
	}
	return out
}

// with is a row of its own memory, with a node at a place.
func with(t []api.Node, x int, n api.Node) []api.Node {
	out := slices.Clone(t)
	out[x] = n
	return out
}

// same is whether two rows have the same nodes.
func same(a, b []api.Node) bool { return slices.EqualFunc(a, b, equal) }

// equal is whether two nodes have the same fields.
func equal(a, b api.Node) bool {
	l, m, i, j := a.Leaf, b.Leaf, a.Inner, b.Inner
	return a.Kind == b.Kind && l.Source == m.Source && bytes.Equal(l.Enc, m.Enc) && bytes.Equal(l.Cred, m.Cred) && bytes.Equal(l.Parent, m.Parent) && bytes.Equal(i.Enc, j.Enc) && bytes.Equal(i.Hash, j.Hash) && slices.Equal(i.Unmerged, j.Unmerged)
}

// copied are nodes that share no memory with those that are given.
func copied(t []api.Node) []api.Node {
	out := slices.Clone(t)
	for x, n := range out {
		out[x].Leaf.Enc, out[x].Leaf.Cred, out[x].Leaf.Parent = bytes.Clone(n.Leaf.Enc), bytes.Clone(n.Leaf.Cred), bytes.Clone(n.Leaf.Parent)
		out[x].Inner.Enc, out[x].Inner.Hash, out[x].Inner.Unmerged = bytes.Clone(n.Inner.Enc), bytes.Clone(n.Inner.Hash), slices.Clone(n.Inner.Unmerged)
	}
	return out
}

// tell tells a row by the kinds and keys of its nodes, without filling pages.
func tell(t []api.Node) string {
	var b strings.Builder
	for x, n := range t {
		if x == 16 {
			b.WriteString(" ..")
			break
		}
		switch n.Kind {
		case api.Blank:
			b.WriteString(" -")
		case api.LeafNode, api.InnerNode:
			b.WriteString(" " + strconv.Quote(string(n.Leaf.Enc)+string(n.Inner.Enc)))
		default:
			b.WriteString(" kind " + strconv.Itoa(n.Kind))
		}
	}
	return "[" + b.String() + " ] of " + strconv.Itoa(len(t))
}

// roomy is a row with nodes behind it in its memory, and what tells whether all of it is as it was.
func roomy(t []api.Node) ([]api.Node, func() bool) {
	whole := slices.Concat(t, slices.Repeat([]api.Node{beyond}, len(t)+2))
	was := copied(whole)
	return whole[:len(t)], func() bool { return same(whole, was) }
}

// under is whether a node is at a place or below it: of what stands below it as much is on its left as on its right.
func under(x, at int) bool {
	beside := 0
	for at>>beside&1 == 1 {
		beside++
	}
	return x >= at-(1<<beside-1) && x <= at+(1<<beside-1)
}

// lastLeaf is the greatest number of a leaf that is not blank, or -1.
func lastLeaf(t []api.Node) int {
	for i := len(t) / 2; i >= 0 && len(t) > 0; i-- {
		if t[2*i].Kind != 0 {
			return i
		}
	}
	return -1
}

// trimmed is how many nodes are left of a tree: the least width in which its last leaf is.
func trimmed(t []api.Node) int {
	last := lastLeaf(t)
	if last < 0 {
		return 0
	}
	for _, w := range widths {
		if 2*last < w {
			return w
		}
	}
	return -1
}

// checkTree tests what is told of a tree, and what it is grown and trimmed to.
func checkTree(t *testing.T, given []api.Node) {
	t.Helper()
	row, untouched := roomy(given)
	free, last := -1, -1
	for x := len(given) - 1; x >= 0; x-- {
		if given[x].Kind != 0 && last < 0 {
			last = x
		}
		if x%2 == 0 && given[x].Kind == 0 {
			free = x / 2
		}
	}
	if n := len(given) - len(given)/2; !Sane(row) || Leaves(row) != n || Free(row) != free || Last(row) != last {
		t.Errorf("%s: Sane %t, Leaves %d, Free %d, Last %d, want true, %d, %d, %d", tell(given), Sane(row), Leaves(row), Free(row), Last(row), n, free, last)
	}
	if s := Trim(row); !same(s, given[:trimmed(given)]) {
		t.Errorf("Trim(%s) = %s, want of %d", tell(given), tell(s), trimmed(given))
	}
	checkGrow(t, row)
	if !untouched() {
		t.Errorf("%s became %s", tell(given), tell(row))
	}
}

// checkGrow tests what a tree is grown to, and that it is trimmed to what the tree is trimmed to.
func checkGrow(t *testing.T, row []api.Node) {
	t.Helper()
	g, e := Grow(row)
	if len(row) == 127 {
		if e != api.ErrFull || len(g) != 0 {
			t.Errorf("Grow(%s) = %s, %d", tell(row), tell(g), e)
		}
		return
	}
	if want := slices.Concat(row, make([]api.Node, len(row)+1)); e != api.OK || !same(g, want) {
		t.Errorf("Grow(%s) = %s, %d, want %s", tell(row), tell(g), e, tell(want))
	}
	if a, b := Trim(g), Trim(row); !same(a, b) {
		t.Errorf("%s is grown and trimmed to %s, but trimmed to %s", tell(row), tell(a), tell(b))
	}
}

// checkClear tests what a tree is without a leaf.
func checkClear(t *testing.T, given []api.Node, i int) {
	t.Helper()
	row, untouched := roomy(given)
	got, e := Clear(row, i)
	if i < 0 || i >= (len(given)+1)/2 {
		if e != api.ErrRange || len(got) != 0 {
			t.Errorf("Clear(%s, %d) = %s, %d", tell(given), i, tell(got), e)
		}
	} else {
		want := slices.Clone(given)
		for x := range want {
			if under(2*i, x) {
				want[x] = blank
			}
		}
		if e != api.OK || !same(got, want) {
			t.Errorf("Clear(%s, %d) = %s, %d, want %s", tell(given), i, tell(got), e, tell(want))
		}
	}
	if !untouched() {
		t.Errorf("%s became %s", tell(given), tell(row))
	}
}

// checkSet tests what a tree is with another node, of which node.Check is to tell e.
func checkSet(t *testing.T, given []api.Node, x int, n api.Node, e api.Errno) {
	t.Helper()
	row, untouched := roomy(given)
	was := copied([]api.Node{n})
	want := e
	if x < 0 || x >= len(given) {
		want = api.ErrRange
	} else if e == api.OK && (n.Kind == 1 && x%2 == 1 || n.Kind == 2 && x%2 == 0) {
		want = api.ErrKind
	}
	got, f := Set(row, x, n)
	if f != want || want != api.OK && len(got) != 0 || want == api.OK && !same(got, with(given, x, n)) {
		t.Errorf("Set(%s, %d, %s) = %s, %d, want %d", tell(given), x, tell(was), tell(got), f, want)
	}
	if !untouched() || !equal(n, was[0]) {
		t.Errorf("%s became %s, %s became %s", tell(given), tell(row), tell(was), tell([]api.Node{n}))
	}
}

// patterned is the tree of a width whose nodes are blank, or not, as a number's digits tell.
func patterned(w, pattern int) []api.Node {
	return drawn(w, func(x int) bool { return pattern>>x&1 == 1 })
}

// some are trees of a width: with no node, all, leaves or inner nodes alone, one node, all but one, those up to one, those from one on.
func some(w int) [][]api.Node {
	never := func(int) bool { return false }
	out := [][]api.Node{drawn(w, never), drawn(w, all), drawn(w, evens), drawn(w, odds)}
	for at := range w {
		for _, tells := range []func(x int) bool{
			func(x int) bool { return x == at },
			func(x int) bool { return x != at },
			func(x int) bool { return x <= at },
			func(x int) bool { return x >= at },
			func(x int) bool { return x <= at || odds(x) },
			func(x int) bool { return x == at || odds(x) },
			func(x int) bool { return x*x%(at+5) < 2 },
		} {
			out = append(out, drawn(w, tells))
		}
	}
	return out
}

// P10.1: rows of each length are trees by their lengths.
func TestSaneLengths(t *testing.T) {
	if !Sane(nil) || !Sane([]api.Node{}) || !Sane([]api.Node{beyond}[:0]) {
		t.Error("the empty tree is none")
	}
	for n := range 131 {
		want := n == 0 || slices.Contains(widths, n)
		for _, full := range []func(int) bool{all, evens, odds, func(int) bool { return false }} {
			if row := drawn(n, full); Sane(row) != want {
				t.Errorf("Sane(%s) = %t", tell(row), !want)
			}
		}
	}
	for _, n := range []int{255, 256, 511, 1023, 1<<16 - 1, 1<<20 - 1} {
		if Sane(make([]api.Node, n)) {
			t.Errorf("%d nodes are a tree", n)
		}
	}
}

// P10.1: at each place of each width a node with which something is wrong, or that may not stand there, makes a tree none.
func TestSanePlaces(t *testing.T) {
	for _, w := range widths {
		full, bare := drawn(w, all), make([]api.Node, w)
		for x := range w {
			for _, n := range rights() {
				want := n.Kind == 0 || n.Kind == 1+x%2
				if Sane(with(full, x, n)) != want || Sane(with(bare, x, n)) != want {
					t.Errorf("Sane of width %d, with %s at %d, is not %t", w, tell([]api.Node{n}), x, want)
				}
			}
			for _, no := range append(wrongs(), wrong{n: ofOther(x)}) {
				if Sane(with(full, x, no.n)) || Sane(with(bare, x, no.n)) {
					t.Errorf("width %d, with %s at %d, is a tree", w, tell([]api.Node{no.n}), x)
				}
			}
		}
	}
}

// P10.1: what is told of trees with no leaf, with some and with all, written out.
func TestTold(t *testing.T) {
	for _, c := range []struct {
		w                  int
		full               []int
		leaves, free, last int
	}{
		{0, nil, 0, -1, -1}, {1, nil, 1, 0, -1}, {1, []int{0}, 1, -1, 0}, {3, nil, 2, 0, -1}, {3, []int{0}, 2, 1, 0}, {3, []int{1}, 2, 0, 1}, {3, []int{2}, 2, 0, 2}, {3, []int{0, 2}, 2, -1, 2}, {3, []int{0, 1, 2}, 2, -1, 2},
		{7, []int{0, 2, 4, 6}, 4, -1, 6}, {7, []int{0, 2, 6}, 4, 2, 6}, {7, []int{0, 2, 4, 5}, 4, 3, 5}, {7, []int{1, 3, 5}, 4, 0, 5}, {15, []int{0, 2, 4}, 8, 3, 4}, {31, []int{0, 29}, 16, 1, 29}, {63, []int{62}, 32, 0, 62}, {127, nil, 64, 0, -1}, {127, []int{0, 126}, 64, 1, 126}, {127, []int{0, 125}, 64, 1, 125},
	} {
		row := drawn(c.w, func(x int) bool { return slices.Contains(c.full, x) })
		if Leaves(row) != c.leaves || Free(row) != c.free || Last(row) != c.last {
			t.Errorf("%s: Leaves %d, Free %d, Last %d", tell(row), Leaves(row), Free(row), Last(row))
		}
	}
	for k, w := range widths {
		if row := drawn(w, evens); Leaves(row) != 1<<k || Free(row) != -1 || Last(row) != w-1 {
			t.Errorf("%s: Leaves %d, Free %d, Last %d", tell(row), Leaves(row), Free(row), Last(row))
		}
	}
}

// P10.1, P10.3, P10.4, R3: all trees of up to eight leaves, by which of their nodes are blank.
func TestSmallTrees(t *testing.T) {
	checkTree(t, nil)
	checkTree(t, []api.Node{})
	for _, w := range widths[:4] {
		for pattern := range 1 << w {
			checkTree(t, patterned(w, pattern))
		}
	}
}

// P10.1, P10.3, P10.4, R3: trees of each width.
func TestTrees(t *testing.T) {
	for _, w := range widths {
		for _, row := range some(w) {
			checkTree(t, row)
		}
	}
}

// P10.2: at each place of trees of each width, and elsewhere, each node that is right or wrong; the first error of several is told.
func TestSet(t *testing.T) {
	for _, w := range append([]int{0}, widths...) {
		places := append([]int{w, w + 1, 2*w + 1}, far...)
		for x := range w {
			places = append(places, x)
		}
		for _, row := range [][]api.Node{drawn(w, all), make([]api.Node, w)} {
			for _, x := range places {
				for _, n := range append(rights(), ofPlace(x), ofOther(x)) {
					checkSet(t, row, x, n, api.OK)
				}
				for _, no := range wrongs() {
					checkSet(t, row, x, no.n, no.e)
				}
			}
		}
	}
}

// P10.2: the first of several errors, written out.
func TestSetErrors(t *testing.T) {
	row := drawn(7, all)
	noKey := api.Node{Kind: api.LeafNode, Leaf: api.Leaf{Source: 1}}
	noKeyInner := api.Node{Kind: api.InnerNode}
	for _, c := range []struct {
		x int
		n api.Node
		e api.Errno
	}{
		{3, innerOf(1), api.OK}, {3, blank, api.OK}, {4, leafOf(1), api.OK}, {4, blank, api.OK}, {3, leafOf(1), api.ErrKind}, {4, innerOf(1), api.ErrKind}, {7, leafOf(1), api.ErrRange}, {-1, blank, api.ErrRange}, {127, innerOf(1), api.ErrRange},
		{4, noKey, api.ErrEmpty}, {3, noKey, api.ErrEmpty}, {3, noKeyInner, api.ErrEmpty}, {4, noKeyInner, api.ErrEmpty}, {8, noKey, api.ErrRange}, {9, noKey, api.ErrRange}, {9, leafOf(1), api.ErrRange}, {8, innerOf(1), api.ErrRange}, {-2, noKeyInner, api.ErrRange},
		{4, api.Node{Kind: 2, Leaf: leafOf(1).Leaf}, api.ErrForm}, {5, api.Node{Kind: 1, Inner: innerOf(1).Inner}, api.ErrForm}, {4, api.Node{Kind: 3}, api.ErrKind}, {7, api.Node{Kind: 3}, api.ErrRange},
	} {
		got, e := Set(row, c.x, c.n)
		if e != c.e || e != api.OK && len(got) != 0 || e == api.OK && !same(got, with(row, c.x, c.n)) {
			t.Errorf("Set at %d of %s = %s, %d, want %d", c.x, tell([]api.Node{c.n}), tell(got), e, c.e)
		}
	}
}

// P10.2: each leaf of trees of each width, and numbers that are none.
func TestClear(t *testing.T) {
	for _, w := range append([]int{0}, widths...) {
		numbers := slices.Clone(far)
		for i := range w + 2 {
			numbers = append(numbers, i)
		}
		for _, row := range [][]api.Node{drawn(w, all), drawn(w, evens), drawn(w, odds), make([]api.Node, w)} {
			for _, i := range numbers {
				checkClear(t, row, i)
			}
		}
	}
	for pattern := range 1 << 7 {
		for i := range 4 {
			checkClear(t, patterned(7, pattern), i)
		}
	}
}

// P10.2: which nodes are cleared, written out.
func TestClearWays(t *testing.T) {
	for _, c := range []struct {
		w, i  int
		clear []int
	}{
		{1, 0, []int{0}}, {3, 0, []int{0, 1}}, {3, 1, []int{2, 1}}, {7, 0, []int{0, 1, 3}}, {7, 1, []int{2, 1, 3}}, {7, 2, []int{4, 5, 3}}, {7, 3, []int{6, 5, 3}}, {15, 2, []int{4, 5, 3, 7}}, {15, 7, []int{14, 13, 11, 7}}, {31, 9, []int{18, 17, 19, 23, 15}}, {127, 63, []int{126, 125, 123, 119, 111, 95, 63}}, {127, 32, []int{64, 65, 67, 71, 79, 95, 63}},
	} {
		want := drawn(c.w, func(x int) bool { return !slices.Contains(c.clear, x) })
		if got, e := Clear(drawn(c.w, all), c.i); e != api.OK || !same(got, want) {
			t.Errorf("Clear of the leaf %d of %d nodes = %s, %d, want %s", c.i, c.w, tell(got), e, tell(want))
		}
	}
}

// P10.3: what grows from the empty tree on, up to 64 leaves.
func TestGrow(t *testing.T) {
	row, e := Grow(nil)
	for _, w := range widths {
		if e != api.OK || !same(row, make([]api.Node, w)) {
			t.Fatalf("%s, %d, want of %d", tell(row), e, w)
		}
		full, f := Grow(drawn(w, all))
		if w < 127 && (f != api.OK || !same(full, drawn(2*w+1, func(x int) bool { return x < w }))) || w == 127 && (f != api.ErrFull || len(full) != 0) {
			t.Errorf("Grow(%s) = %s, %d", tell(drawn(w, all)), tell(full), f)
		}
		row, e = Grow(row)
	}
	if e != api.ErrFull || len(row) != 0 {
		t.Errorf("%s, %d", tell(row), e)
	}
}

// P10.3: trees with leaves in the left half alone, in the right half, in both, in none, and with inner nodes but no leaves, written out.
func TestTrim(t *testing.T) {
	for _, c := range []struct {
		w    int
		full []int
		left int
	}{
		{0, nil, 0}, {1, nil, 0}, {1, []int{0}, 1}, {3, nil, 0}, {3, []int{1}, 0}, {3, []int{0}, 1}, {3, []int{0, 1}, 1}, {3, []int{2}, 3}, {3, []int{0, 2}, 3},
		{7, []int{0}, 1}, {7, []int{0, 1, 3, 5}, 1}, {7, []int{2}, 3}, {7, []int{2, 3, 5}, 3}, {7, []int{4}, 7}, {7, []int{0, 4}, 7}, {7, []int{6}, 7}, {7, []int{1, 3, 5}, 0}, {7, []int{5}, 0},
		{15, []int{0, 2, 4, 6}, 7}, {15, []int{6, 7, 9, 11, 13}, 7}, {15, []int{8}, 15}, {15, []int{2, 9, 11}, 3}, {127, nil, 0}, {127, []int{0}, 1}, {127, []int{62}, 63}, {127, []int{62, 63, 65, 125}, 63}, {127, []int{64}, 127}, {127, []int{126}, 127}, {127, []int{63, 125}, 0}, {127, []int{30, 63, 125}, 31}, {127, []int{32, 95}, 63},
	} {
		row := drawn(c.w, func(x int) bool { return slices.Contains(c.full, x) })
		want := drawn(c.left, func(x int) bool { return slices.Contains(c.full, x) })
		if got := Trim(row); !same(got, want) {
			t.Errorf("Trim(%s) = %s, want %s", tell(row), tell(got), tell(want))
		}
	}
}

// R5, P1: what is no tree counts as the empty one in each call but Sane.
func TestNoTrees(t *testing.T) {
	for _, given := range noTrees() {
		row, untouched := roomy(given)
		if Sane(row) || Leaves(row) != 0 || Free(row) != -1 || Last(row) != -1 || len(Trim(row)) != 0 {
			t.Errorf("%s: Sane %t, Leaves %d, Free %d, Last %d, Trim %s", tell(given), Sane(row), Leaves(row), Free(row), Last(row), tell(Trim(row)))
		}
		if g, e := Grow(row); e != api.OK || !same(g, []api.Node{blank}) {
			t.Errorf("Grow(%s) = %s, %d", tell(given), tell(g), e)
		}
		for _, x := range []int{-1, 0, 1, 2, len(given) / 2, len(given) - 1, len(given), math.MinInt, math.MaxInt} {
			for _, n := range []api.Node{blank, ofPlace(x), ofOther(x), {Kind: 1}} {
				if got, e := Set(row, x, n); e != api.ErrRange || len(got) != 0 {
					t.Errorf("Set(%s, %d, ..) = %s, %d", tell(given), x, tell(got), e)
				}
			}
			if got, e := Clear(row, x); e != api.ErrRange || len(got) != 0 {
				t.Errorf("Clear(%s, %d) = %s, %d", tell(given), x, tell(got), e)
			}
		}
		if !untouched() {
			t.Errorf("%s became %s", tell(given), tell(row))
		}
	}
}

// The chapter's example: Grow of the empty tree has one node, Grow of that three; Trim of that is the empty tree.
func TestExample(t *testing.T) {
	one, e := Grow(nil)
	if e != api.OK || len(one) != 1 || one[0].Kind != api.Blank {
		t.Fatalf("%s, %d", tell(one), e)
	}
	three, e := Grow(one)
	if e != api.OK || len(three) != 3 {
		t.Fatalf("%s, %d", tell(three), e)
	}
	if s := Trim(three); len(s) != 0 {
		t.Errorf("%s", tell(s))
	}
}

// kept are rows that were handed out, and what they were then.
type kept struct{ rows, were [][]api.Node }

// keep keeps a row, and all that it shares with others.
func (k *kept) keep(t []api.Node) []api.Node {
	k.rows, k.were = append(k.rows, t), append(k.were, copied(t))
	return t
}

// check tests that all rows are what they were.
func (k *kept) check(t *testing.T) {
	t.Helper()
	for n, row := range k.rows {
		if !same(row, k.were[n]) {
			t.Fatalf("%s became %s", tell(k.were[n]), tell(row))
		}
	}
}

// R3: whatever is made of one tree, and of what was made of it, all stay as they were.
func TestHandedOut(t *testing.T) {
	for _, w := range widths {
		var k kept
		big := k.keep(drawn(w, all))
		for _, left := range widths {
			if left > w {
				continue
			}
			// Two trees that are trimmed to one half, and share the rest.
			bare := k.keep(drawn(w, func(x int) bool { return x < left || odds(x) }))
			a, b := k.keep(Trim(bare)), k.keep(Trim(bare))
			for range 8 {
				for x := range min(len(a), 20) {
					one, _ := Set(a, x, ofPlace(x+40))
					two, _ := Clear(b, x)
					three, _ := Grow(k.keep(one))
					four, _ := Grow(a)
					five, _ := Set(k.keep(four), len(a)+1, ofPlace(len(a)+1))
					k.keep(Trim(k.keep(five)))
					k.keep(Trim(k.keep(two)))
					k.keep(Trim(k.keep(three)))
				}
				a, _ = Set(a, len(a)-1, leafOf(99))
				b = k.keep(Trim(k.keep(a)))
			}
			k.check(t)
		}
		if !same(big, drawn(w, all)) {
			t.Errorf("%s", tell(big))
		}
	}
}

// R3: what two callers put behind what they were handed does not meet, nor does it meet what was given.
func TestRoomBehind(t *testing.T) {
	given := drawn(7, func(x int) bool { return x < 3 || odds(x) })
	was := copied(given)
	a, b := Trim(given), Trim(given)
	x, y := append(a, leafOf(50)), append(b, leafOf(60))
	if !same(given, was) || !equal(x[3], leafOf(50)) || !equal(y[3], leafOf(60)) {
		t.Errorf("%s, %s, %s", tell(given), tell(x), tell(y))
	}
	whole, untouched := roomy(drawn(7, evens))
	c, d := Trim(whole), Trim(whole)
	x, y = append(c, leafOf(50)), append(d, leafOf(60))
	if !untouched() || !equal(x[7], leafOf(50)) || !equal(y[7], leafOf(60)) {
		t.Errorf("%s, %s, %s", tell(whole), tell(x), tell(y))
	}
}

// What is told hangs on the arguments alone: asked again, also with others asked between, the same is told.
func TestAskedAgain(t *testing.T) {
	for _, w := range widths {
		rows := some(w)
		for k, row := range rows {
			other := rows[(k*31+7)%len(rows)]
			g, e := Grow(row)
			c, f := Clear(row, k%w)
			s := Trim(row)
			Grow(other)
			Clear(other, 0)
			Set(other, 0, leafOf(k))
			Trim(other)
			g2, e2 := Grow(slices.Clone(row))
			c2, f2 := Clear(slices.Clone(row), k%w)
			if e != e2 || f != f2 || !same(g, g2) || !same(c, c2) || !same(s, Trim(slices.Clone(row))) {
				t.Fatalf("%s is told otherwise", tell(row))
			}
		}
	}
}

// step does one thing to a tree, as two octets tell, and what the chapter says it becomes.
func step(t *testing.T, row []api.Node, what, at byte) []api.Node {
	t.Helper()
	x := int(int8(at))
	checkTree(t, row)
	var next []api.Node
	e := api.OK
	switch what % 6 {
	case 0, 1:
		checkSet(t, row, x, ofPlace(x), api.OK)
		next, e = Set(row, x, ofPlace(x))
	case 2:
		no := wrongs()[int(what)/6%len(wrongs())]
		checkSet(t, row, x, no.n, no.e)
		checkSet(t, row, x, blank, api.OK)
		next, e = Set(row, x, blank)
	case 3:
		checkClear(t, row, x)
		next, e = Clear(row, x)
	case 4:
		next, e = Grow(row)
	case 5:
		return Trim(row)
	}
	if e != api.OK {
		return row
	}
	return next
}

// P1, P10.1 to P10.4, R3: whatever is done from the empty tree on, each tree is what the chapter says, and those ahead stay as they were.
func FuzzSteps(f *testing.F) {
	for _, s := range []string{"", "\x04\x00", "\x04\x00\x04\x00\x05\x00", "\x04\x00\x00\x00\x04\x00\x00\x02\x00\x01\x03\x01\x05\x00", "\x04\x00\x04\x00\x04\x00\x00\x06\x00\x05\x00\x03\x03\x03\x05\x00", "\x04\x00\x04\x00\x04\x00\x04\x00\x04\x00\x04\x00\x04\x00\x04\x00\x00\x7e\x03\x3f\x05\x00", "\x04\x00\x02\x00\x08\x01\x0e\xff\x03\x80"} {
		f.Add([]byte(s))
	}
	f.Fuzz(func(t *testing.T, b []byte) {
		var k kept
		var row []api.Node
		for n := 0; n+1 < min(len(b), 80); n += 2 {
			row = k.keep(step(t, row, b[n], b[n+1]))
		}
		k.check(t)
	})
}

// P1, R5: rows of any nodes, by an octet each, are trees or count as the empty one.
func FuzzRows(f *testing.F) {
	for _, s := range []string{"", "\x00", "\x01", "\x01\x02\x01", "\x01\x02\x00\x02\x00\x00\x00", "\x02", "\x00\x01\x00", "\x01\x01", "\x03", "\x00\x00\x05"} {
		f.Add([]byte(s), 0)
	}
	bad := wrongs()
	f.Fuzz(func(t *testing.T, b []byte, x int) {
		// Of longer rows there is nothing new to tell.
		b = b[:min(len(b), 300)]
		var row []api.Node
		sane := len(b) == 0 || slices.Contains(widths, len(b))
		for at, octet := range b {
			n := blank
			switch k := int(octet); {
			case k >= 3 && k < 3+len(bad):
				n, sane = bad[k-3].n, false
			case k%3 == 1:
				n, sane = leafOf(k), sane && at%2 == 0
			case k%3 == 2:
				n, sane = innerOf(k), sane && at%2 == 1
			}
			row = append(row, n)
		}
		if Sane(row) != sane {
			t.Fatalf("Sane(%s) = %t", tell(row), !sane)
		}
		if !sane {
			if g, e := Grow(row); e != api.OK || len(g) != 1 || Leaves(row) != 0 || Free(row) != -1 || Last(row) != -1 || len(Trim(row)) != 0 {
				t.Fatalf("%s is told as a tree", tell(row))
			}
			row = nil
		} else {
			checkTree(t, row)
		}
		checkClear(t, row, x)
		checkSet(t, row, x, ofPlace(x), api.OK)
		checkSet(t, row, x, ofOther(x), api.OK)
	})
}
