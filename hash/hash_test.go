package hash

import (
	"bytes"
	"crypto/sha256"
	"encoding/hex"
	"math"
	"slices"
	"strconv"
	"strings"
	"testing"

	"cordwood/api"
	"cordwood/node"
	"cordwood/shape"
)

// widths are how many nodes a tree that is not the empty one may have.
var widths = []int{1, 3, 7, 15, 31, 63, 127}

// far are numbers that are no node of any tree, and no leaf; of some the double runs over into those that are.
var far = []int{math.MinInt, math.MinInt + 1, math.MinInt + 2, math.MinInt + 31, math.MinInt + 63, math.MinInt / 2, math.MinInt/2 + 1, math.MinInt32, -128, -127, -64, -2, -1, 127, 128, 129, 254, 255, 256, 1 << 31, 1<<32 - 1, 1 << 32, 1<<32 + 2, 1 << 62, 1<<62 + 1, math.MaxInt - 1, math.MaxInt}

// The blank node, and what stands in the room behind a row, and a list, that is given.
var (
	blank      = api.Node{}
	beyond     = api.Node{Kind: -77, Inner: api.Inner{Hash: []byte("beyond")}}
	beyondList = -77
)

// leafOf is a leaf that is another one for each number, from each of the places that one may come from.
func leafOf(k int) api.Node {
	n := api.Node{Kind: api.LeafNode, Leaf: api.Leaf{Enc: []byte{byte(k), 'l'}, Cred: []byte("who"), Source: k/2%3 + 1}}
	if n.Leaf.Source == 3 {
		n.Leaf.Parent = []byte("above")
	}
	return n
}

// innerOf is an inner node that is another one for each number, with these unmerged leaves.
func innerOf(k int, unmerged ...int) api.Node {
	return api.Node{Kind: api.InnerNode, Inner: api.Inner{Enc: []byte{byte(k), 'i'}, Hash: []byte{9}, Unmerged: unmerged}}
}

// build is a tree of so many nodes: of which full tells it, they are not blank, and unmerged tells what the inner ones name.
func build(w int, full func(x int) bool, unmerged func(x int) []int) []api.Node {
	t := make([]api.Node, w)
	for x := range t {
		switch {
		case !full(x):
		case x%2 == 0:
			t[x] = leafOf(x)
		default:
			t[x] = innerOf(x, unmerged(x)...)
		}
	}
	return t
}

// all, evens, odds and never tell places.
func all(int) bool     { return true }
func evens(x int) bool { return x%2 == 0 }
func odds(x int) bool  { return x%2 != 0 }
func never(int) bool   { return false }

// some are ways to tell which nodes of a width are not blank: none, all, leaves or inner nodes alone, one, all but one, those up to one, and mixtures.
func some(w int) []func(x int) bool {
	out := []func(x int) bool{never, all, evens, odds}
	// Of a great tree not each node is tried, but some of each level.
	step := max(1, w/21)
	for at := 0; at < w; at += step {
		out = append(out,
			func(x int) bool { return x == at },
			func(x int) bool { return x != at },
			func(x int) bool { return x <= at },
			func(x int) bool { return x == at || odds(x) },
			func(x int) bool { return x == at || evens(x) },
			func(x int) bool { return x*x%(at+5) < 2 },
		)
	}
	return out
}

// nobody, everybody and few name unmerged leaves.
func nobody(int) []int { return nil }
func everybody(int) []int {
	var out []int
	for i := range api.MaxLeaves {
		out = append(out, i)
	}
	return out
}
func few(x int) []int {
	var out []int
	for i := range api.MaxLeaves {
		if (i*x+x)%7 == 3 {
			out = append(out, i)
		}
	}
	return out
}

// naming are ways to name unmerged leaves; what is named need be no leaf of the tree.
var naming = []func(x int) []int{nobody, few, everybody}

// told is what All is to tell of a tree, drawn as halves of halves, by no number's digits and by the library's sum.
func told(t []api.Node) [][]byte {
	out := make([][]byte, len(t))
	var half func(least, last int) []byte
	half = func(least, last int) []byte {
		x := (least + last) / 2
		var b []byte
		if least == last {
			b = node.OfLeaf(x/2, t[x])
		} else {
			b = node.OfInner(t[x], half(least, x-1), half(x+1, last))
		}
		sum := sha256.Sum256(b)
		out[x] = sum[:]
		return out[x]
	}
	if len(t) > 0 {
		half(0, len(t)-1)
	}
	return out
}

// isAbove is whether a node of a width is another one, or above it, drawn as halves of halves.
func isAbove(at, x, w int) bool {
	least, last := 0, w-1
	for {
		mid := (least + last) / 2
		switch {
		case at == mid:
			return least <= x && x <= last
		case at < mid:
			last = mid - 1
		default:
			least = mid + 1
		}
	}
}

// dropped is what Drop is to tell of a tree.
func dropped(t []api.Node, l []int) []api.Node {
	out := copied(t)
	for x, n := range t {
		if x%2 == 0 && slices.Contains(l, x/2) {
			out[x] = blank
		}
		if n.Kind == api.InnerNode {
			out[x].Inner.Unmerged = slices.DeleteFunc(slices.Clone(n.Inner.Unmerged), func(i int) bool { return slices.Contains(l, i) })
		}
	}
	return out
}

// tell tells a row by its nodes, without filling pages.
func tell(t []api.Node) string {
	var b strings.Builder
	for x, n := range t {
		if x == 32 {
			b.WriteString(" ..")
			break
		}
		switch n.Kind {
		case api.Blank:
			b.WriteString(" -")
		case api.LeafNode:
			b.WriteString(" l")
		case api.InnerNode:
			b.WriteString(" i")
			for _, u := range n.Inner.Unmerged {
				b.WriteString("," + strconv.Itoa(u))
			}
		default:
			b.WriteString(" kind " + strconv.Itoa(n.Kind))
		}
	}
	return "[" + b.String() + " ] of " + strconv.Itoa(len(t))
}

// copied are nodes that share no memory with those that are given.
func copied(t []api.Node) []api.Node {
	out := slices.Clone(t)
	for x, n := range out {
		out[x].Leaf.Enc, out[x].Leaf.Cred, out[x].Leaf.Parent = bytes.Clone(n.Leaf.Enc), bytes.Clone(n.Leaf.Cred), bytes.Clone(n.Leaf.Parent)
		out[x].Inner.Enc, out[x].Inner.Hash, out[x].Inner.Unmerged = bytes.Clone(n.Inner.Enc), bytes.Clone(n.Inner.Hash), slices.Clone(n.Inner.Unmerged)
	}
	return out
}

// same is whether two rows have the same nodes.
func same(a, b []api.Node) bool { return slices.EqualFunc(a, b, equal) }

// equal is whether two nodes have the same fields.
func equal(a, b api.Node) bool {
	l, m, i, j := a.Leaf, b.Leaf, a.Inner, b.Inner
	return a.Kind == b.Kind && l.Source == m.Source && bytes.Equal(l.Enc, m.Enc) && bytes.Equal(l.Cred, m.Cred) && bytes.Equal(l.Parent, m.Parent) && bytes.Equal(i.Enc, j.Enc) && bytes.Equal(i.Hash, j.Hash) && slices.Equal(i.Unmerged, j.Unmerged)
}

// sameHashes is whether two lists have the same hashes.
func sameHashes(a, b [][]byte) bool { return slices.EqualFunc(a, b, bytes.Equal) }

// roomy is a row with nodes behind it in its memory, also behind what its nodes name, and what tells whether all of it is as it was.
func roomy(t []api.Node) ([]api.Node, func() bool) {
	whole := slices.Concat(copied(t), slices.Repeat([]api.Node{beyond}, len(t)+2))
	named := make([][]int, len(whole))
	for x, n := range whole {
		named[x] = slices.Concat(n.Inner.Unmerged, []int{beyondList, beyondList})
		whole[x].Inner.Unmerged = named[x][:len(n.Inner.Unmerged)]
	}
	was := copied(whole)
	return whole[:len(t)], func() bool {
		for _, l := range named {
			if !slices.Equal(l[len(l)-2:], []int{beyondList, beyondList}) {
				return false
			}
		}
		return same(whole, was)
	}
}

// roomyList is a list with numbers behind it in its memory, and what tells whether all of it is as it was.
func roomyList(l []int) ([]int, func() bool) {
	whole := slices.Concat(l, []int{beyondList, beyondList, beyondList})
	was := slices.Clone(whole)
	return whole[:len(l)], func() bool { return slices.Equal(whole, was) }
}

// checkTree tests what is told of all nodes of a tree, and of numbers beside them, and that the row stays as it was.
func checkTree(t *testing.T, given []api.Node) {
	t.Helper()
	if !shape.Sane(given) {
		t.Fatalf("%s is no tree", tell(given))
	}
	row, untouched := roomy(given)
	want := told(given)
	if got := All(row); !sameHashes(got, want) {
		t.Errorf("All(%s) = %x, want %x", tell(given), got, want)
	}
	for x := -2; x < len(row)+3; x++ {
		var h []byte
		if x >= 0 && x < len(row) {
			h = want[x]
		}
		if got := Of(row, x); !bytes.Equal(got, h) {
			t.Errorf("Of(%s, %d) = %x, want %x", tell(given), x, got, h)
		}
	}
	if !untouched() {
		t.Errorf("%s became %s", tell(given), tell(row))
	}
}

// checkDrop tests what is left of a tree without some leaves, and the hash of a node of it, or of a number that is none, and that neither the row nor the list is changed.
func checkDrop(t *testing.T, given []api.Node, x int, gone []int) {
	t.Helper()
	row, untouched := roomy(given)
	l, unmoved := roomyList(gone)
	want := dropped(given, gone)
	got := Drop(row, l)
	if !same(got, want) {
		t.Errorf("Drop(%s, %v) = %s, want %s", tell(given), gone, tell(got), tell(want))
	}
	if !shape.Sane(got) {
		t.Errorf("Drop(%s, %v) = %s is no tree", tell(given), gone, tell(got))
	}
	if h := Without(row, x, l); !bytes.Equal(h, Of(want, x)) {
		t.Errorf("Without(%s, %d, %v) = %x, want %x", tell(given), x, gone, h, Of(want, x))
	}
	if !untouched() || !unmoved() {
		t.Errorf("%s, %v became %s, %v", tell(given), gone, tell(row), l)
	}
}

// P12.1: trees of each width, with all, some and no nodes, and all that they may name.
func TestTrees(t *testing.T) {
	checkTree(t, nil)
	checkTree(t, []api.Node{})
	for _, w := range widths {
		for k, full := range some(w) {
			for n, unmerged := range naming {
				// Of a great tree each way to be full is tried with one way to name.
				if w > 15 && k > 3 && k%len(naming) != n {
					continue
				}
				checkTree(t, build(w, full, unmerged))
			}
		}
	}
}

// small calls of all trees of up to four leaves, whose inner nodes are blank, name nobody, or name some.
func small(call func(row []api.Node)) {
	for _, w := range []int{1, 3, 7} {
		row := make([]api.Node, w)
		var fill func(x int)
		fill = func(x int) {
			if x == w {
				call(row)
				return
			}
			choices := []api.Node{blank, leafOf(x)}
			if odds(x) {
				choices = []api.Node{blank, innerOf(x), innerOf(x, 1, 2, 9)}
			}
			for _, n := range choices {
				row[x] = n
				fill(x + 1)
			}
		}
		fill(0)
	}
}

// P12.1, P12.2: all trees of up to four leaves.
func TestSmallTrees(t *testing.T) {
	small(func(row []api.Node) {
		checkTree(t, row)
		for _, l := range [][]int{{}, {0}, {1}, {3, 2}, {9, 0}} {
			checkDrop(t, row, len(row)/2, l)
		}
	})
}

// sum is the library's sum of octets, laid one behind the other.
func sum(parts ...string) string {
	h := sha256.Sum256([]byte(strings.Join(parts, "")))
	return string(h[:])
}

// P12.1: what is summed up, written out octet by octet.
func TestOctets(t *testing.T) {
	leaf := func(k byte) api.Node { return api.Node{Kind: 1, Leaf: api.Leaf{Enc: []byte{k}, Source: 1}} }
	commit := api.Node{Kind: 1, Leaf: api.Leaf{Enc: []byte{5, 6}, Cred: []byte{8}, Source: 3, Parent: []byte{1, 2}}}
	row := []api.Node{leaf(7), {Kind: 2, Inner: api.Inner{Enc: []byte{4}, Hash: []byte{3}, Unmerged: []int{1}}}, blank, blank, commit, blank, leaf(9)}
	zero := sum("\x01\x00\x00\x00\x00\x01\x01\x07\x00\x01")
	two := sum("\x01\x00\x00\x00\x01\x00")
	four := sum("\x01\x00\x00\x00\x02\x01\x02\x05\x06\x01\x08\x03\x02\x01\x02")
	six := sum("\x01\x00\x00\x00\x03\x01\x01\x09\x00\x01")
	one := sum("\x02\x01\x01\x04\x01\x03\x04\x00\x00\x00\x01", "\x20", zero, "\x20", two)
	five := sum("\x02\x00", "\x20", four, "\x20", six)
	three := sum("\x02\x00", "\x20", one, "\x20", five)
	got := All(row)
	for x, want := range []string{zero, one, two, three, four, five, six} {
		if h := Of(row, x); string(h) != want {
			t.Errorf("Of(%s, %d) = %x, want %x", tell(row), x, h, want)
		}
		if x >= len(got) || string(got[x]) != want {
			t.Errorf("All(%s) = %x, want %x at %d", tell(row), got, want, x)
		}
	}
	if len(got) != len(row) {
		t.Errorf("All(%s) are %d", tell(row), len(got))
	}
}

// P12.1: numbers that are no node of a tree have no hash.
func TestNoNodes(t *testing.T) {
	for _, w := range append([]int{0}, widths...) {
		for _, full := range []func(int) bool{all, never} {
			row := build(w, full, everybody)
			for _, x := range append([]int{w, w + 1, 2 * w, 2*w + 1, math.MinInt + w}, far...) {
				if x >= 0 && x < w {
					continue
				}
				if a, b := Of(row, x), Without(row, x, []int{0}); len(a) != 0 || len(b) != 0 {
					t.Errorf("Of(%s, %d) = %x, Without %x", tell(row), x, a, b)
				}
			}
		}
	}
}

// P12.2: leaves that a tree has, that are blank, that it has not, the same twice, all, none; also numbers of which the double runs over.
func TestDrop(t *testing.T) {
	for _, w := range append([]int{0}, widths...) {
		last := w / 2
		lists := [][]int{nil, {}, {0}, {last}, {last, 0}, {last / 2, last / 2}, {1, 0, 1, 0}, {last + 1}, {63}, {64, 63, 62}, {-1}, {w}, far, append([]int{last}, far...), everybody(0), slices.Repeat([]int{last, 40}, 99)}
		for k := range last + 1 {
			lists = append(lists, []int{k}, []int{k, last - k, math.MinInt + k})
		}
		for k, full := range some(max(w, 1)) {
			if w > 15 && k > 30 {
				break
			}
			for n, l := range lists {
				checkDrop(t, build(w, full, naming[(k+n)%len(naming)]), n%(w+2)-1, l)
			}
		}
	}
}

// P12.2: what is left, written out.
func TestLeft(t *testing.T) {
	l, i, no := leafOf, innerOf, blank
	for _, c := range []struct {
		row, want []api.Node
		gone      []int
	}{
		{nil, nil, []int{0}},
		{[]api.Node{l(0)}, []api.Node{no}, []int{0}},
		{[]api.Node{l(0)}, []api.Node{l(0)}, []int{1, 2}},
		{[]api.Node{l(0), no, l(2)}, []api.Node{l(0), no, l(2)}, nil},
		{[]api.Node{l(0), no, l(2)}, []api.Node{l(0), no, no}, []int{1}},
		{[]api.Node{l(0), i(1, 0, 1), l(2)}, []api.Node{no, i(1, 1), l(2)}, []int{0}},
		{[]api.Node{l(0), i(1, 0, 1), no}, []api.Node{l(0), i(1, 0), no}, []int{1, 1}},
		{[]api.Node{l(0), i(1, 0, 1, 5, 63), l(2)}, []api.Node{no, i(1, 1), l(2)}, []int{63, 5, 0, 9}},
		{[]api.Node{l(0), i(1, 3), l(2), i(3, 0, 1, 3), l(4), i(5, 2, 3), l(6)}, []api.Node{l(0), i(1), no, i(3, 0), l(4), i(5, 2), no}, []int{3, 1}},
		{[]api.Node{l(0), i(1), l(2), i(3), l(4), i(5), l(6)}, []api.Node{no, i(1), no, i(3), no, i(5), no}, []int{2, 0, 3, 1}},
	} {
		if got := Drop(c.row, c.gone); !same(got, c.want) {
			t.Errorf("Drop(%s, %v) = %s, want %s", tell(c.row), c.gone, tell(got), tell(c.want))
		}
	}
}

// P12.2: no number that is dropped is left among anybody's Unmerged, and all others are.
func TestNobodyNames(t *testing.T) {
	for _, w := range widths {
		row := build(w, all, everybody)
		for i := range api.MaxLeaves {
			for x, n := range Drop(row, []int{i, i}) {
				if odds(x) && (slices.Contains(n.Inner.Unmerged, i) || len(n.Inner.Unmerged) != api.MaxLeaves-1) {
					t.Errorf("without %d, %d of %s names %v", i, x, tell(row), n.Inner.Unmerged)
				}
			}
		}
	}
}

// P12.2: who is dropped already is dropped again, one by one or together, in whatever order.
func TestDropAgain(t *testing.T) {
	for _, w := range widths {
		for _, unmerged := range naming {
			row := build(w, all, unmerged)
			a, b := w/2, w/5
			want := Drop(row, []int{a, b})
			for _, got := range [][]api.Node{Drop(Drop(row, []int{a}), []int{b}), Drop(Drop(row, []int{b}), []int{a}), Drop(row, []int{b, a, b}), Drop(want, []int{a, b}), Drop(want, nil)} {
				if !same(got, want) {
					t.Errorf("of %s without %d and %d: %s, want %s", tell(row), a, b, tell(got), tell(want))
				}
			}
		}
	}
}

// P12.2, P1: long lists.
func TestLongLists(t *testing.T) {
	row := build(127, all, everybody)
	long := make([]int, 1<<20)
	for k := range long {
		long[k] = k*7919 - 1<<22
	}
	for _, l := range [][]int{long, slices.Repeat([]int{3, 60}, 1<<19), append(slices.Clone(long), 11)} {
		var in []int
		for _, i := range l {
			if i >= 0 && i < api.MaxLeaves && !slices.Contains(in, i) {
				in = append(in, i)
			}
		}
		want := dropped(row, in)
		if got := Drop(row, l); !same(got, want) {
			t.Errorf("of %d numbers: %s, want %s", len(l), tell(got), tell(want))
		}
		if got, h := Without(row, 63, l), Of(want, 63); !bytes.Equal(got, h) {
			t.Errorf("of %d numbers: %x, want %x", len(l), got, h)
		}
	}
}

// others are nodes that may stand where one stands, each with one thing that is another one.
func others(n api.Node) []api.Node {
	out := []api.Node{n, n, n, n, n, blank}
	switch n.Kind {
	case api.LeafNode:
		out[0].Leaf.Enc = []byte("another")
		out[1].Leaf.Cred = nil
		out[2].Leaf.Source, out[2].Leaf.Parent = n.Leaf.Source%3+1, nil
		out[3].Leaf.Source, out[3].Leaf.Parent = 3, []byte("else")
		// What one field has more, the next one has less.
		out[4].Leaf.Enc, out[4].Leaf.Cred = append(slices.Clone(n.Leaf.Enc), 'w'), []byte("ho")
	case api.InnerNode:
		out[0].Inner.Enc = []byte("another")
		out[1].Inner.Hash = nil
		out[2].Inner.Unmerged = []int{0, 63}
		out[3].Inner.Unmerged = []int{0, 62}
		out[4].Inner.Enc, out[4].Inner.Hash = append(slices.Clone(n.Inner.Enc), 9), nil
	}
	return out
}

// P12.3: what becomes of a node changes its own hash and those above it, and no other one.
func TestChanges(t *testing.T) {
	for _, w := range widths {
		for _, unmerged := range []func(int) []int{nobody, few} {
			row := build(w, all, unmerged)
			was := All(row)
			for x, n := range row {
				for k, other := range others(n) {
					// Of a great tree some changes of each node are tried.
					if w > 31 && k%2 != x/2%2 {
						continue
					}
					changed := slices.Clone(row)
					changed[x] = other
					for at, h := range All(changed) {
						if bytes.Equal(h, was[at]) == isAbove(at, x, w) {
							t.Errorf("with the change %d at %d of %d nodes, %d has %x, ahead %x", k, x, w, at, h, was[at])
						}
					}
				}
			}
		}
	}
}

// P12.3: two nodes that change places change the hash of what is above both, and nothing beside it.
func TestOrder(t *testing.T) {
	for _, w := range widths[1:] {
		row := build(w, all, nobody)
		was := All(row)
		for x := 2; x < w; x += 2 {
			changed := slices.Clone(row)
			changed[0], changed[x] = row[x], row[0]
			for at, h := range All(changed) {
				if bytes.Equal(h, was[at]) == (isAbove(at, 0, w) || isAbove(at, x, w)) {
					t.Errorf("with 0 and %d of %d nodes for each other, %d has %x, ahead %x", x, w, at, h, was[at])
				}
			}
		}
	}
}

// P12.3: a node's hash is the same in a greater tree, and whatever is in the other half.
func TestGreater(t *testing.T) {
	for _, w := range widths[:len(widths)-1] {
		for k, full := range some(w) {
			row := build(w, full, naming[k%len(naming)])
			want := All(row)
			grown, e := shape.Grow(row)
			if e != api.OK {
				t.Fatal(e)
			}
			beside := slices.Concat(row, build(2*w+1, all, few)[w:])
			for _, greater := range [][]api.Node{grown, beside} {
				if got := All(greater); len(got) != len(greater) || !sameHashes(got[:w], want) {
					t.Errorf("of %s: %x, want %x", tell(greater), got, want)
				}
				if got := Of(greater, w/2); !bytes.Equal(got, want[w/2]) {
					t.Errorf("Of(%s, %d) = %x, want %x", tell(greater), w/2, got, want[w/2])
				}
			}
		}
	}
}

// P12.3: leaves that say the same have another hash at each place, also where they are blank.
func TestEachPlace(t *testing.T) {
	for _, n := range []api.Node{blank, leafOf(4)} {
		row := make([]api.Node, 127)
		for x := 0; x < len(row); x += 2 {
			row[x] = n
		}
		seen := map[string]int{}
		for x, h := range All(row) {
			if at, there := seen[string(h)]; there || len(h) != 32 {
				t.Errorf("%d and %d have %x", at, x, h)
			}
			seen[string(h)] = x
		}
	}
}

// Lists without elements are nothing, whether they are nil or not (R3).
func TestEmptyLists(t *testing.T) {
	for _, w := range widths {
		row := build(w, func(x int) bool { return x%5 < 3 }, nobody)
		other := slices.Clone(row)
		for x, n := range other {
			if n.Kind != api.LeafNode {
				other[x].Leaf = api.Leaf{Enc: []byte{}, Cred: []byte{}, Parent: []byte{}}
			}
			if n.Kind != api.InnerNode {
				other[x].Inner = api.Inner{Enc: []byte{}, Hash: []byte{}, Unmerged: []int{}}
			} else {
				other[x].Inner.Unmerged = []int{}
			}
		}
		checkTree(t, other)
		checkDrop(t, other, w/2, []int{0})
		if !sameHashes(All(row), All(other)) {
			t.Errorf("%s has other hashes", tell(row))
		}
	}
}

// wrongs are nodes that no tree has at some place.
func wrongs() []api.Node {
	l, i := leafOf(1).Leaf, innerOf(1, 2).Inner
	key, over := []byte("k"), make([]byte, 201)
	return []api.Node{
		{Kind: 3}, {Kind: -1}, {Kind: 257, Leaf: l}, {Kind: 1<<32 + 2, Inner: i}, {Kind: 1}, {Kind: 2}, {Leaf: l}, {Inner: i}, {Kind: 1, Leaf: l, Inner: i}, {Kind: 1, Leaf: l, Inner: api.Inner{Unmerged: []int{0}}}, {Kind: 2, Leaf: l, Inner: i},
		{Kind: 1, Leaf: api.Leaf{Enc: over, Source: 1}}, {Kind: 1, Leaf: api.Leaf{Enc: key}}, {Kind: 2, Inner: api.Inner{Enc: over}},
		{Kind: 2, Inner: api.Inner{Enc: key, Unmerged: []int{64}}}, {Kind: 2, Inner: api.Inner{Enc: key, Unmerged: []int{-1}}}, {Kind: 2, Inner: api.Inner{Enc: key, Unmerged: []int{1, 1}}}, {Kind: 2, Inner: api.Inner{Enc: key, Unmerged: []int{2, 1}}}, {Kind: 2, Inner: api.Inner{Enc: key, Unmerged: make([]int, 65)}},
	}
}

// noTrees are rows that are no tree, by each of the things that a tree must be.
func noTrees() [][]api.Node {
	var out [][]api.Node
	for n := range 131 {
		if n > 0 && !slices.Contains(widths, n) {
			out = append(out, make([]api.Node, n), build(n, all, nobody), build(n, evens, nobody))
		}
	}
	out = append(out, make([]api.Node, 255), build(255, evens, nobody), build(511, all, nobody))
	for _, w := range widths {
		for _, x := range []int{0, w / 2, w - 1} {
			misplaced := leafOf(x)
			if evens(x) {
				misplaced = innerOf(x)
			}
			for _, n := range append(wrongs(), misplaced) {
				for _, full := range []func(int) bool{all, evens, never} {
					row := build(w, full, nobody)
					row[x] = n
					out = append(out, row)
				}
			}
		}
	}
	return out
}

// checkNoTree tests that what is no tree counts as the empty one in each call, and stays as it was.
func checkNoTree(t *testing.T, given []api.Node, numbers []int) {
	t.Helper()
	row, untouched := roomy(given)
	l, unmoved := roomyList(numbers)
	if a, b, c := All(row), Drop(row, l), Drop(row, nil); len(a) != 0 || len(b) != 0 || len(c) != 0 {
		t.Errorf("of %s: All %x, Drop %s, %s", tell(given), a, tell(b), tell(c))
	}
	for _, x := range numbers {
		if a, b, c := Of(row, x), Without(row, x, l), Without(row, x, nil); len(a) != 0 || len(b) != 0 || len(c) != 0 {
			t.Errorf("of %d in %s: Of %x, Without %x, %x", x, tell(given), a, b, c)
		}
	}
	if !untouched() || !unmoved() {
		t.Errorf("%s became %s, %v", tell(given), tell(row), l)
	}
}

// R5, P1: what is no tree counts as the empty one in each call, also where what is wrong with it would be dropped.
func TestNoTrees(t *testing.T) {
	for _, row := range noTrees() {
		if shape.Sane(row) {
			t.Fatalf("%s is a tree", tell(row))
		}
		n := len(row)
		checkNoTree(t, row, append([]int{0, 1, 2, n / 4, n / 2, n/2 + 1, n - 1, n}, far...))
	}
	checkNoTree(t, nil, far)
	checkNoTree(t, []api.Node{}, []int{0, 1})
}

// The chapter's example: of one blank leaf, the sum of 1 0 0 0 0 0.
func TestExample(t *testing.T) {
	const want = "36c159d76b52e03e496363607c5940227f62f4e048df344b050159bc97bba3d7"
	row := []api.Node{blank}
	h := sha256.Sum256([]byte{1, 0, 0, 0, 0, 0})
	if a, b := Of(row, 0), All(row); hex.EncodeToString(a) != want || !bytes.Equal(a, h[:]) || len(b) != 1 || !bytes.Equal(b[0], a) {
		t.Errorf("%x, %x, want %s", a, b, want)
	}
}

// No two hashes that are told share memory, and none shares it with what was told ahead.
func TestNewMemory(t *testing.T) {
	row, untouched := roomy(build(31, func(x int) bool { return x != 7 }, few))
	was, first := All(row), All(row)
	for x, h := range first {
		_ = append(h, 1, 2, 3)
		clear(h)
		for at := x + 1; at < len(first); at++ {
			if !bytes.Equal(first[at], was[at]) {
				t.Fatalf("with %d changed, %d has %x, ahead %x", x, at, first[at], was[at])
			}
		}
		one := Of(row, x)
		clear(one)
		if again := Of(row, x); !bytes.Equal(again, was[x]) {
			t.Errorf("of %d: %x, then %x", x, was[x], again)
		}
	}
	if again := All(row); !sameHashes(again, was) || !untouched() {
		t.Errorf("of %s: %x, then %x", tell(row), was, again)
	}
}

// R3: what Drop tells may be changed in its nodes, and in what they name, without the row.
func TestDropNewMemory(t *testing.T) {
	row, untouched := roomy(build(31, all, few))
	for _, l := range [][]int{nil, {0, 3, 3, 50}} {
		got := Drop(row, l)
		for x := range got {
			clear(got[x].Inner.Unmerged)
			_ = append(got[x].Inner.Unmerged, 1, 2)
			got[x] = beyond
		}
		_ = append(got, blank)
		if !untouched() {
			t.Fatalf("without %v the row became %s", l, tell(row))
		}
	}
}

// What is told hangs on the arguments alone: asked again, also with others asked between, the same is told.
func TestAskedAgain(t *testing.T) {
	for _, w := range widths {
		fulls := some(w)
		for k, full := range fulls {
			row, other := build(w, full, naming[k%len(naming)]), build(w, fulls[(k*31+7)%len(fulls)], nobody)
			x, l := k%w, []int{k % ((w + 1) / 2), k % 64}
			a, b, c := Of(row, x), All(row), Drop(row, l)
			All(other)
			Without(other, x, l)
			Of(nil, x)
			again := copied(row)
			if d, e, f := Of(again, x), All(again), Drop(again, l); !bytes.Equal(a, d) || !sameHashes(b, e) || !same(c, f) {
				t.Fatalf("of %s: %x, %x, %s, then %x, %x, %s", tell(row), a, b, tell(c), d, e, tell(f))
			}
		}
	}
}

// P1, R5, P12.1, P12.2: rows of any nodes, by an octet each, are told as the chapter says, or count as the empty tree.
func FuzzRows(f *testing.F) {
	for _, s := range []string{"", "\x00", "\x01", "\x01\x00\x01", "\x01\x01\x00", "\x01\x00\x01\x00\x00\x00\x01", "\x01\x05\x01\x00\x02\x09\x00", "\x01\x01", "\x00\x00\x80", "\x00\x07\x01\x00\x00\x06\x01\x00\x01\x00\x00\x00\x00\x05\x01", strings.Repeat("\x00\x03\x01\x00\x00", 26)[:127]} {
		for _, x := range []int{0, 3, math.MinInt + 1} {
			f.Add([]byte(s), x, []byte{})
			f.Add([]byte(s), x, []byte{0, 1, 1, 200, 63})
		}
	}
	bad := wrongs()
	f.Fuzz(func(t *testing.T, b []byte, x int, l []byte) {
		// Of longer rows and lists there is nothing new to tell.
		b, l = b[:min(len(b), 300)], l[:min(len(l), 300)]
		var row []api.Node
		for at, octet := range b {
			k, n := int(octet), blank
			switch {
			case k >= 128:
				n = bad[k%len(bad)]
			case k%4 == 0:
			case evens(at):
				n = leafOf(k)
			default:
				n = innerOf(k, naming[k/4%3](at)...)
			}
			row = append(row, n)
		}
		gone := []int{x}
		for _, octet := range l {
			gone = append(gone, int(int8(octet)))
		}
		if !shape.Sane(row) {
			checkNoTree(t, row, gone)
			return
		}
		checkTree(t, row)
		checkDrop(t, row, x, gone)
		checkDrop(t, row, len(row)/2, gone)
	})
}
