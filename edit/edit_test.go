package edit

import (
	"bytes"
	"math"
	"slices"
	"strconv"
	"strings"
	"testing"

	"cordwood/api"
	"cordwood/chain"
	"cordwood/resolve"
	"cordwood/shape"
)

// widths are how many nodes a tree that is not the empty one may have.
var widths = []int{1, 3, 7, 15, 31, 63, 127}

// far are numbers that are no leaf of any tree; of some the double runs over into the nodes of one.
var far = []int{math.MinInt, math.MinInt + 1, math.MinInt + 2, math.MinInt + 31, math.MinInt + 63, math.MinInt / 2, math.MinInt/2 + 1, math.MinInt32, -128, -127, -64, -2, -1, 64, 65, 126, 127, 128, 254, 255, 256, 1 << 31, 1<<32 - 1, 1 << 32, 1<<32 + 2, 1 << 62, 1<<62 + 1, math.MaxInt - 1, math.MaxInt}

// The blank node, and what stands in the room behind a row, behind keys, and behind octets, that are given.
var (
	blank       = api.Node{}
	beyond      = api.Node{Kind: -77, Inner: api.Inner{Hash: []byte("beyond")}}
	beyondBytes = bytes.Repeat([]byte("beyond"), 8)
)

// leaves is how many leaves, blank or not, so many nodes have.
func leaves(w int) int { return (w + 1) / 2 }

// above are the nodes above a leaf, from the root down, found by halving what is left.
func above(i, w int) []int {
	var out []int
	for least, last := 0, w-1; least < last; {
		x := (least + last) / 2
		out = append(out, x)
		if 2*i < x {
			last = x - 1
		} else {
			least = x + 1
		}
	}
	return out
}

// wrong is what is to be told of a leaf that is to come from somewhere.
func wrong(l api.Leaf, source int) api.Errno {
	switch {
	case len(l.Enc) == 0:
		return api.ErrEmpty
	case max(len(l.Enc), len(l.Cred), len(l.Parent)) > 200:
		return api.ErrLarge
	case l.Source != 1 && l.Source != 2 && l.Source != 3:
		return api.ErrKind
	case l.Source != 3 && len(l.Parent) > 0:
		return api.ErrForm
	case l.Source != source:
		return api.ErrKind
	}
	return api.OK
}

// missing is what is to be told of the leaf i.
func missing(t []api.Node, i int) api.Errno {
	if !shape.Sane(t) || i < 0 || i >= leaves(len(t)) {
		return api.ErrRange
	}
	if t[2*i].Kind == api.Blank {
		return api.ErrBlank
	}
	return api.OK
}

// wantAdd is what Add is to tell.
func wantAdd(t []api.Node, l api.Leaf) ([]api.Node, int, api.Errno) {
	if e := wrong(l, 1); e != api.OK {
		return nil, -1, e
	}
	var out []api.Node
	if shape.Sane(t) {
		out = copied(t)
	}
	at := 0
	for at < len(out) && out[at].Kind != api.Blank {
		at += 2
	}
	if at >= len(out) {
		if len(out) == 127 {
			return nil, -1, api.ErrFull
		}
		out = append(out, make([]api.Node, len(out)+1)...)
	}
	out[at] = api.Node{Kind: api.LeafNode, Leaf: l}
	for _, x := range above(at/2, len(out)) {
		if u := &out[x].Inner.Unmerged; out[x].Kind == api.InnerNode && !slices.Contains(*u, at/2) {
			*u = append(*u, at/2)
			slices.Sort(*u)
		}
	}
	return out, at / 2, api.OK
}

// without is a tree of which a leaf, and what is above it, are blank.
func without(t []api.Node, i int) []api.Node {
	out := copied(t)
	for _, x := range append(above(i, len(t)), 2*i) {
		out[x] = blank
	}
	return out
}

// wantRemove is what Remove is to tell.
func wantRemove(t []api.Node, i int) ([]api.Node, api.Errno) {
	if e := missing(t, i); e != api.OK {
		return nil, e
	}
	out := without(t, i)
	for len(out) > 0 {
		// Of one node the root is the leaf itself, and all that is left is nothing.
		half := len(out) / 2
		if slices.ContainsFunc(out[half:], isLeaf) {
			return out, api.OK
		}
		out = out[:half]
	}
	return nil, api.OK
}

// wantChange is what Change is to tell.
func wantChange(t []api.Node, i int, l api.Leaf) ([]api.Node, api.Errno) {
	if e := missing(t, i); e != api.OK {
		return nil, e
	}
	if e := wrong(l, 2); e != api.OK {
		return nil, e
	}
	out := without(t, i)
	out[2*i] = api.Node{Kind: api.LeafNode, Leaf: l}
	return out, api.OK
}

// wantCommit is what Commit is to tell.
func wantCommit(t []api.Node, i int, l api.Leaf, keys [][]byte) ([]api.Node, api.Errno) {
	if e := missing(t, i); e != api.OK {
		return nil, e
	}
	if e := wrong(l, 3); e != api.OK {
		return nil, e
	}
	plan, said, e := chain.Plan(t, i, keys)
	if e != api.OK {
		return nil, e
	}
	if !bytes.Equal(l.Parent, said) {
		return nil, api.ErrHash
	}
	out := copied(plan)
	out[2*i] = api.Node{Kind: api.LeafNode, Leaf: l}
	return out, api.OK
}

// leafOf is what a leaf may say, something else for each number, from one of the places that it may come from.
func leafOf(k, source int) api.Leaf {
	return api.Leaf{Enc: []byte{byte(k), byte(k >> 8), 'l'}, Cred: []byte{'w', byte(k)}, Source: source}
}

// nodeOf is a leaf that is another one for each number.
func nodeOf(k int) api.Node {
	n := api.Node{Kind: api.LeafNode, Leaf: leafOf(k, k/2%3+1)}
	if n.Leaf.Source == 3 {
		n.Leaf.Parent = []byte("above")
	}
	return n
}

// innerOf is an inner node that is another one for each number, with these unmerged leaves.
func innerOf(k int, unmerged ...int) api.Node {
	return api.Node{Kind: api.InnerNode, Inner: api.Inner{Enc: []byte{byte(k), 'i'}, Hash: []byte{9}, Unmerged: unmerged}}
}

// isLeaf is whether a node is a leaf that is not blank.
func isLeaf(n api.Node) bool { return n.Kind == api.LeafNode }

// build is a tree of so many nodes: of which full tells it, they are not blank, and unmerged tells what the inner ones name.
func build(w int, full func(x int) bool, unmerged func(x int) []int) []api.Node {
	t := make([]api.Node, w)
	for x := range t {
		switch {
		case !full(x):
		case x%2 == 0:
			t[x] = nodeOf(x)
		default:
			t[x] = innerOf(x, unmerged(x)...)
		}
	}
	return t
}

// all, evens, odds and never tell places.
func all(int) bool     { return true }
func evens(x int) bool { return x%2 == 0 }
func odds(x int) bool  { return x%2 != 0 }
func never(int) bool   { return false }

// some are ways to tell which nodes of a width are not blank: none, all, leaves or inner nodes alone, one, all but one, those up to one, and mixtures.
func some(w int) []func(x int) bool {
	out := []func(x int) bool{never, all, evens, odds}
	// Of a great tree not each node is tried, but some of each level.
	step := max(1, w/9)
	for at := 0; at < w; at += step {
		out = append(out,
			func(x int) bool { return x == at },
			func(x int) bool { return x != at },
			func(x int) bool { return x <= at },
			func(x int) bool { return x == at || odds(x) },
			func(x int) bool { return x == at || evens(x) },
			func(x int) bool { return x*x%(at+5) < 2 },
		)
	}
	return out
}

// nobody, everybody and few name unmerged leaves; what is named need be no leaf of the tree, nor below the node.
func nobody(int) []int { return nil }
func everybody(int) []int {
	var out []int
	for i := range api.MaxLeaves {
		out = append(out, i)
	}
	return out
}
func few(x int) []int {
	var out []int
	for i := range api.MaxLeaves {
		if (i*x+x)%7 == 3 {
			out = append(out, i)
		}
	}
	return out
}

// naming are ways to name unmerged leaves.
var naming = []func(x int) []int{nobody, few, everybody}

// keysOf are so many keys, each another one.
func keysOf(n, k int) [][]byte {
	out := make([][]byte, n)
	for at := range out {
		out[at] = []byte{byte(at), byte(k), 'k'}
	}
	return out
}

// planned is what a leaf says that makes its way up, and keys, as many as its way asks.
func planned(t *testing.T, row []api.Node, i, k int) (api.Leaf, [][]byte) {
	t.Helper()
	keys := keysOf(len(resolve.Filter(row, i)), k)
	_, said, e := chain.Plan(row, i, keys)
	if e != api.OK {
		t.Fatalf("Plan(%s, %d): %d", tell(row), i, e)
	}
	l := leafOf(k, 3)
	l.Parent = said
	return l, keys
}

// tell tells a row by its nodes, without filling pages.
func tell(t []api.Node) string {
	var b strings.Builder
	for x, n := range t {
		if x == 40 {
			b.WriteString(" ..")
			break
		}
		switch n.Kind {
		case api.Blank:
			b.WriteString(" -")
		case api.LeafNode:
			b.WriteString(" l" + strconv.Itoa(n.Leaf.Source))
		case api.InnerNode:
			b.WriteString(" i")
			for _, u := range n.Inner.Unmerged {
				b.WriteString("," + strconv.Itoa(u))
			}
		default:
			b.WriteString(" kind " + strconv.Itoa(n.Kind))
		}
	}
	return "[" + b.String() + " ] of " + strconv.Itoa(len(t))
}

// copied are nodes that share no memory with those that are given.
func copied(t []api.Node) []api.Node {
	out := slices.Clone(t)
	for x, n := range out {
		out[x].Leaf.Enc, out[x].Leaf.Cred, out[x].Leaf.Parent = bytes.Clone(n.Leaf.Enc), bytes.Clone(n.Leaf.Cred), bytes.Clone(n.Leaf.Parent)
		out[x].Inner.Enc, out[x].Inner.Hash, out[x].Inner.Unmerged = bytes.Clone(n.Inner.Enc), bytes.Clone(n.Inner.Hash), slices.Clone(n.Inner.Unmerged)
	}
	return out
}

// same is whether two rows have the same nodes.
func same(a, b []api.Node) bool { return slices.EqualFunc(a, b, equal) }

// equal is whether two nodes have the same fields.
func equal(a, b api.Node) bool {
	l, m, i, j := a.Leaf, b.Leaf, a.Inner, b.Inner
	return a.Kind == b.Kind && l.Source == m.Source && bytes.Equal(l.Enc, m.Enc) && bytes.Equal(l.Cred, m.Cred) && bytes.Equal(l.Parent, m.Parent) && bytes.Equal(i.Enc, j.Enc) && bytes.Equal(i.Hash, j.Hash) && slices.Equal(i.Unmerged, j.Unmerged)
}

// roomyBytes are octets with others behind them in their memory, one after the other, and what tells whether all of that is as it was.
func roomyBytes(given ...[]byte) ([][]byte, func() bool) {
	var cut, whole, was [][]byte
	for _, v := range append(slices.Clone(given), beyondBytes) {
		b := slices.Concat(v, beyondBytes)
		cut, whole, was = append(cut, b[:len(v)]), append(whole, b), append(was, bytes.Clone(b))
	}
	return cut[:len(given)], func() bool {
		for k, b := range whole {
			if !bytes.Equal(b, was[k]) || len(cut[k]) != len(b)-len(beyondBytes) || &cut[k][:1][0] != &b[0] {
				return false
			}
		}
		return true
	}
}

// roomy is a row with nodes behind it in its memory, also octets and numbers behind what its nodes say, and what tells whether all of it is as it was.
func roomy(t []api.Node) ([]api.Node, func() bool) {
	whole := slices.Concat(copied(t), slices.Repeat([]api.Node{beyond}, len(t)+2))
	var intact []func() bool
	var numbers [][]int
	for x, n := range whole {
		b, unmoved := roomyBytes(n.Leaf.Enc, n.Leaf.Cred, n.Leaf.Parent, n.Inner.Enc, n.Inner.Hash)
		intact = append(intact, unmoved)
		numbers = append(numbers, slices.Concat(n.Inner.Unmerged, []int{-77, -77}))
		whole[x].Leaf.Enc, whole[x].Leaf.Cred, whole[x].Leaf.Parent, whole[x].Inner.Enc, whole[x].Inner.Hash = b[0], b[1], b[2], b[3], b[4]
		whole[x].Inner.Unmerged = numbers[x][:len(n.Inner.Unmerged)]
	}
	was := copied(whole)
	return whole[:len(t)], func() bool {
		for _, unmoved := range intact {
			if !unmoved() {
				return false
			}
		}
		for _, l := range numbers {
			if !slices.Equal(l[len(l)-2:], []int{-77, -77}) {
				return false
			}
		}
		return same(whole, was)
	}
}

// roomyLeaf is what a leaf says, with octets behind it in its memory, and what tells whether all of it is as it was.
func roomyLeaf(l api.Leaf) (api.Leaf, func() bool) {
	b, unmoved := roomyBytes(l.Enc, l.Cred, l.Parent)
	return api.Leaf{Enc: b[0], Cred: b[1], Source: l.Source, Parent: b[2]}, unmoved
}

// checkAdd tests what Add tells, and that nothing that it is given is changed.
func checkAdd(t *testing.T, given []api.Node, l api.Leaf) {
	t.Helper()
	row, untouched := roomy(given)
	own, unmoved := roomyLeaf(l)
	got, i, e := Add(row, own)
	want, j, err := wantAdd(given, l)
	if e != err || i != j || !same(got, want) {
		t.Errorf("Add(%s, from %d) = %s, %d, %d, want %s, %d, %d", tell(given), l.Source, tell(got), i, e, tell(want), j, err)
	}
	checkKept(t, given, row, got, untouched, unmoved)
}

// checkRemove tests what Remove tells likewise.
func checkRemove(t *testing.T, given []api.Node, i int) {
	t.Helper()
	row, untouched := roomy(given)
	got, e := Remove(row, i)
	want, err := wantRemove(given, i)
	if e != err || !same(got, want) {
		t.Errorf("Remove(%s, %d) = %s, %d, want %s, %d", tell(given), i, tell(got), e, tell(want), err)
	}
	checkKept(t, given, row, got, untouched)
}

// checkChange tests what Change tells likewise.
func checkChange(t *testing.T, given []api.Node, i int, l api.Leaf) {
	t.Helper()
	row, untouched := roomy(given)
	own, unmoved := roomyLeaf(l)
	got, e := Change(row, i, own)
	want, err := wantChange(given, i, l)
	if e != err || !same(got, want) {
		t.Errorf("Change(%s, %d, from %d) = %s, %d, want %s, %d", tell(given), i, l.Source, tell(got), e, tell(want), err)
	}
	checkKept(t, given, row, got, untouched, unmoved)
}

// checkCommit tests what Commit tells likewise.
func checkCommit(t *testing.T, given []api.Node, i int, l api.Leaf, keys [][]byte) {
	t.Helper()
	row, untouched := roomy(given)
	own, unmoved := roomyLeaf(l)
	cut, unturned := roomyBytes(keys...)
	got, e := Commit(row, i, own, cut)
	want, err := wantCommit(given, i, l, keys)
	if e != err || !same(got, want) {
		t.Errorf("Commit(%s, %d, from %d, %d keys) = %s, %d, want %s, %d", tell(given), i, l.Source, len(keys), tell(got), e, tell(want), err)
	}
	checkKept(t, given, row, got, untouched, unmoved, unturned)
}

// checkKept tests that what was given is as it was, and that what is answered is a tree.
func checkKept(t *testing.T, given, row, got []api.Node, kept ...func() bool) {
	t.Helper()
	for k, intact := range kept {
		if !intact() {
			t.Errorf("%s became %s (%d)", tell(given), tell(row), k)
		}
	}
	if !shape.Sane(got) {
		t.Errorf("of %s came %s, which is no tree", tell(given), tell(got))
	}
}

// checkAll tests all that may be done with a leaf of a tree, there or not.
func checkAll(t *testing.T, row []api.Node, i, k int) {
	t.Helper()
	checkAdd(t, row, leafOf(k, 1))
	checkRemove(t, row, i)
	checkChange(t, row, i, leafOf(k, 2))
	keys := keysOf(len(resolve.Filter(row, i)), k)
	l := leafOf(k, 3)
	checkCommit(t, row, i, l, keys)
	_, l.Parent, _ = chain.Plan(row, i, keys)
	checkCommit(t, row, i, l, keys)
}

// P14.1: the empty tree has one leaf then, and nothing else.
func TestAddFirst(t *testing.T) {
	for _, row := range [][]api.Node{nil, {}, make([]api.Node, 0, 9)} {
		l := leafOf(5, 1)
		got, i, e := Add(row, l)
		if e != api.OK || i != 0 || !same(got, []api.Node{{Kind: 1, Leaf: l}}) {
			t.Errorf("Add(%s) = %s, %d, %d", tell(row), tell(got), i, e)
		}
		checkAdd(t, row, l)
	}
}

// P14.1: a leaf is laid where the first blank one is, wherever that may be, and however many come behind it.
func TestAddAtBlank(t *testing.T) {
	for _, w := range widths {
		for at := range leaves(w) {
			for k, full := range []func(x int) bool{
				func(x int) bool { return x != 2*at },
				func(x int) bool { return x < 2*at || odds(x) },
				func(x int) bool { return x < 2*at },
				func(x int) bool { return evens(x) && x != 2*at },
				func(x int) bool { return x != 2*at && x != w-1 && x%8 != 5 },
			} {
				row := build(w, full, naming[(at+k)%len(naming)])
				l := leafOf(at, 1)
				got, i, e := Add(row, l)
				if e != api.OK || i != at || len(got) != w || !equal(got[2*at], api.Node{Kind: 1, Leaf: l}) {
					t.Errorf("Add(%s) = %s, %d, %d, want the leaf %d", tell(row), tell(got), i, e, at)
				}
				checkAdd(t, row, l)
			}
		}
	}
}

// P14.1: a tree without a blank leaf grows: ahead all is as it was, behind it is a blank root, then the leaf, then nothing; one of 64 leaves has no room.
func TestAddGrows(t *testing.T) {
	for _, w := range widths {
		for k, full := range []func(x int) bool{evens, all, func(x int) bool { return evens(x) || x%8 == 3 }} {
			row, l := build(w, full, naming[k]), leafOf(k, 1)
			got, i, e := Add(row, l)
			if w == 127 {
				if e != api.ErrFull || i != -1 || len(got) != 0 {
					t.Errorf("Add(%s) = %s, %d, %d", tell(row), tell(got), i, e)
				}
				continue
			}
			want := append(copied(row), make([]api.Node, w+1)...)
			want[w+1] = api.Node{Kind: 1, Leaf: l}
			if e != api.OK || i != (w+1)/2 || !same(got, want) {
				t.Errorf("Add(%s) = %s, %d, %d, want %s", tell(row), tell(got), i, e, tell(want))
			}
			checkAdd(t, row, l)
		}
	}
}

// P14.1: of 64 leaves each has the next number, and there is no room for another one; once one of them is away, it is its room.
func TestAddAll(t *testing.T) {
	var row []api.Node
	for k := range 64 {
		got, i, e := Add(row, leafOf(k, 1))
		if e != api.OK || i != k || len(got) < 2*k+1 || len(got) >= max(4*k, 2) {
			t.Fatalf("Add(%s) = %s, %d, %d", tell(row), tell(got), i, e)
		}
		row = got
	}
	for at := range 64 {
		if got, i, e := Add(row, leafOf(64, 1)); e != api.ErrFull || i != -1 || len(got) != 0 {
			t.Fatalf("Add(%s) = %s, %d, %d", tell(row), tell(got), i, e)
		}
		fewer, e := Remove(row, at)
		if e != api.OK {
			t.Fatalf("Remove(%s, %d): %d", tell(row), at, e)
		}
		again, i, e := Add(fewer, leafOf(100+at, 1))
		if e != api.OK || i != at || len(again) != 127 {
			t.Fatalf("Add(%s) = %s, %d, %d, want %d", tell(fewer), tell(again), i, e, at)
		}
		row = again
	}
}

// P14.1: the number is joined to what the inner nodes on its way up name that are not blank, once and in its place, and to nobody else's.
func TestUnmerged(t *testing.T) {
	for _, c := range []struct{ had, want []int }{
		{nil, []int{5}}, {[]int{}, []int{5}}, {[]int{5}, []int{5}},
		{[]int{4}, []int{4, 5}}, {[]int{6}, []int{5, 6}}, {[]int{0, 4, 6, 63}, []int{0, 4, 5, 6, 63}}, {[]int{0, 4, 5, 6, 63}, []int{0, 4, 5, 6, 63}},
		{everybody(0), everybody(0)}, {slices.Delete(everybody(0), 5, 6), everybody(0)},
	} {
		// Each of the three on the way is blank or not.
		way := []int{9, 11, 7}
		for which := range 8 {
			row := build(15, func(x int) bool {
				at := slices.Index(way, x)
				return x != 10 && (at < 0 || which>>at&1 != 0)
			}, func(int) []int { return c.had })
			got, i, e := Add(row, leafOf(1, 1))
			if e != api.OK || i != 5 || len(got) != 15 {
				t.Fatalf("Add(%s) = %s, %d, %d", tell(row), tell(got), i, e)
			}
			for x, n := range got {
				want := row[x]
				switch {
				case x == 10:
					want = api.Node{Kind: 1, Leaf: leafOf(1, 1)}
				case want.Kind == api.InnerNode && slices.Contains(way, x):
					want.Inner.Unmerged = c.want
				}
				if !equal(n, want) {
					t.Errorf("Add(%s): %d is %v, want %v", tell(row), x, n, want)
				}
			}
		}
	}
}

// P14.1: which inner nodes name a new leaf, told for each leaf of each width by all that is below a node.
func TestWhoNames(t *testing.T) {
	for _, w := range widths {
		for at := range leaves(w) {
			row := build(w, func(x int) bool { return x != 2*at }, nobody)
			got, _, e := Add(row, leafOf(1, 1))
			if e != api.OK || len(got) != w {
				t.Fatalf("Add(%s) = %s, %d", tell(row), tell(got), e)
			}
			for x := 1; x < w; x += 2 {
				// A node has as many on each side as the lowest power of two in the number behind its own, less one.
				far := (x+1)&-(x+1) - 1
				below := 2*at >= x-far && 2*at <= x+far
				if slices.Contains(got[x].Inner.Unmerged, at) != below || below != (len(got[x].Inner.Unmerged) == 1) {
					t.Errorf("Add(%s): %d names %v", tell(row), x, got[x].Inner.Unmerged)
				}
			}
		}
	}
}

// said are things that a leaf may say, and what is wrong with each, where one from there is asked (nothing: from any).
var said = []struct {
	what string
	l    api.Leaf
	e    [4]api.Errno
}{
	{"a package", leafOf(1, 1), [4]api.Errno{1: api.OK, 2: api.ErrKind, 3: api.ErrKind}},
	{"an update", leafOf(1, 2), [4]api.Errno{1: api.ErrKind, 2: api.OK, 3: api.ErrKind}},
	{"a commit", leafOf(1, 3), [4]api.Errno{1: api.ErrKind, 2: api.ErrKind, 3: api.OK}},
	{"a package, of 200 octets", api.Leaf{Enc: long(200), Cred: long(200), Source: 1}, [4]api.Errno{1: api.OK, 2: api.ErrKind, 3: api.ErrKind}},
	{"an update, of 200 octets", api.Leaf{Enc: long(200), Cred: long(200), Source: 2, Parent: []byte{}}, [4]api.Errno{1: api.ErrKind, 2: api.OK, 3: api.ErrKind}},
	{"nothing", api.Leaf{}, each(api.ErrEmpty)},
	{"no key", api.Leaf{Enc: []byte{}, Cred: long(1), Source: 2}, each(api.ErrEmpty)},
	{"no key, and too much", api.Leaf{Cred: long(201), Source: 1}, each(api.ErrEmpty)},
	{"no key, from nowhere", api.Leaf{Source: 4}, each(api.ErrEmpty)},
	{"no key, and a parent", api.Leaf{Source: 1, Parent: long(3)}, each(api.ErrEmpty)},
	{"a long key", api.Leaf{Enc: long(201), Source: 1}, each(api.ErrLarge)},
	{"long who it is", api.Leaf{Enc: long(1), Cred: long(201), Source: 2}, each(api.ErrLarge)},
	{"a long parent", api.Leaf{Enc: long(1), Source: 3, Parent: long(201)}, each(api.ErrLarge)},
	{"a long parent that may not be", api.Leaf{Enc: long(1), Source: 1, Parent: long(201)}, each(api.ErrLarge)},
	{"a long key, from nowhere", api.Leaf{Enc: long(1 << 20), Source: 4}, each(api.ErrLarge)},
	{"from 0", leafOf(1, 0), each(api.ErrKind)},
	{"from 4", leafOf(1, 4), each(api.ErrKind)},
	{"from -1", leafOf(1, -1), each(api.ErrKind)},
	{"from 257", leafOf(1, 257), each(api.ErrKind)},
	{"from far away", leafOf(1, 1<<32+2), each(api.ErrKind)},
	{"from farthest away", leafOf(1, math.MinInt), each(api.ErrKind)},
	{"from 4, and a parent", api.Leaf{Enc: long(1), Source: 4, Parent: long(3)}, each(api.ErrKind)},
	{"a package, and a parent", api.Leaf{Enc: long(1), Source: 1, Parent: long(3)}, each(api.ErrForm)},
	{"an update, and a parent", api.Leaf{Enc: long(1), Source: 2, Parent: long(1)}, each(api.ErrForm)},
}

// long are so many octets.
func long(n int) []byte { return bytes.Repeat([]byte{7}, n) }

// each is one error from wherever a leaf is asked to come.
func each(e api.Errno) [4]api.Errno { return [4]api.Errno{e, e, e, e} }

// P14.1: each error of Add, in the order in which they are told: what is wrong with the leaf, that it is no package, that there is no room.
func TestAddErrors(t *testing.T) {
	for _, c := range said {
		for _, row := range [][]api.Node{nil, build(1, all, nobody), build(7, all, few), build(7, odds, few), build(127, all, nobody), build(127, evens, nobody), make([]api.Node, 2)} {
			want := c.e[1]
			if want == api.OK && len(row) == 127 {
				want = api.ErrFull
			}
			got, i, e := Add(row, c.l)
			if e != want || (i == -1) != (e != api.OK) || (len(got) == 0) != (e != api.OK) {
				t.Errorf("%s: Add(%s) = %s, %d, %d, want %d", c.what, tell(row), tell(got), i, e, want)
			}
			checkAdd(t, row, c.l)
		}
	}
}

// P14.2: each error of Change, in the order in which they are told: that there is no such leaf, that it is blank, what is wrong with what it is to say, that that is no update.
func TestChangeErrors(t *testing.T) {
	row := build(7, func(x int) bool { return x != 2 }, nobody)
	for _, c := range said {
		for i, e := range map[int]api.Errno{0: c.e[2], 1: api.ErrBlank, 3: c.e[2], 4: api.ErrRange, -1: api.ErrRange} {
			got, err := Change(row, i, c.l)
			if err != e || (len(got) == 0) != (e != api.OK) {
				t.Errorf("%s: Change(%s, %d) = %s, %d, want %d", c.what, tell(row), i, tell(got), err, e)
			}
			checkChange(t, row, i, c.l)
		}
	}
}

// P14.2: each leaf of trees of each width, there or blank, is removed, and changed.
func TestRemoveAndChange(t *testing.T) {
	for _, w := range widths {
		for k, full := range some(w) {
			row := build(w, full, naming[k%len(naming)])
			for i := range leaves(w) {
				// Of a great tree not each leaf is tried each time.
				if w > 15 && k > 3 && i%7 != k%7 {
					continue
				}
				checkRemove(t, row, i)
				checkChange(t, row, i, leafOf(i+k, 2))
			}
		}
	}
}

// P14.2: what stood on a leaf's way up is blank, and all else is as it was, told node by node.
func TestBlankWay(t *testing.T) {
	for _, w := range widths {
		row, l := build(w, all, few), leafOf(300, 2)
		for i := range leaves(w) {
			way := above(i, w)
			changed, e := Change(row, i, l)
			if e != api.OK || len(changed) != w {
				t.Fatalf("Change(%s, %d) = %s, %d", tell(row), i, tell(changed), e)
			}
			removed, e := Remove(row, i)
			// Of two leaves the first one is left alone, if the other one goes, and of one nobody.
			if e != api.OK || len(removed) != w && w > 3 {
				t.Fatalf("Remove(%s, %d) = %s, %d", tell(row), i, tell(removed), e)
			}
			for x, n := range changed {
				want := row[x]
				switch {
				case x == 2*i:
					want = api.Node{Kind: 1, Leaf: l}
				case slices.Contains(way, x):
					want = blank
				}
				if !equal(n, want) {
					t.Errorf("Change(%s, %d): %d is %v, want %v", tell(row), i, x, n, want)
				}
				if x == 2*i {
					want = blank
				}
				if x < len(removed) && !equal(removed[x], want) {
					t.Errorf("Remove(%s, %d): %d is %v, want %v", tell(row), i, x, removed[x], want)
				}
			}
		}
	}
}

// P14.2: a tree from which the last leaf is removed is no wider than the one that is last then asks, whatever inner nodes stood further on.
func TestTrimmed(t *testing.T) {
	// Of how many nodes the least tree is that has so many leaves.
	width := func(n int) int {
		w := 0
		for leaves(w) < n {
			w = 2*w + 1
		}
		return w
	}
	for _, w := range widths {
		for i := range leaves(w) {
			for j := -1; j < i; j++ {
				if w > 31 && (i*3+j)%7 != 1 {
					continue
				}
				row := build(w, func(x int) bool { return x == 2*i || x == 2*j || odds(x) && (i+j)%2 != 0 }, nobody)
				got, e := Remove(row, i)
				if e != api.OK || len(got) != width(j+1) || j >= 0 && !equal(got[2*j], row[2*j]) {
					t.Errorf("Remove(%s, %d) = %s, %d", tell(row), i, tell(got), e)
				}
				trimmed, e := shape.Clear(row, i)
				if trimmed = shape.Trim(trimmed); e != api.OK || !same(got, trimmed) {
					t.Errorf("Remove(%s, %d) = %s, want %s", tell(row), i, tell(got), tell(trimmed))
				}
				if j < 0 {
					continue
				}
				// The first one of them is removed: the last one is where it was.
				want := width(i + 1)
				if got, e := Remove(row, j); e != api.OK || len(got) != want || !equal(got[2*i], row[2*i]) {
					t.Errorf("Remove(%s, %d) = %s, %d", tell(row), j, tell(got), e)
				}
			}
		}
	}
}

// P14.2: a tree whose leaf is changed is as wide as it was, also where all behind it are blank.
func TestChangeTrimsNothing(t *testing.T) {
	for _, w := range widths {
		row := build(w, func(x int) bool { return x == 0 }, nobody)
		got, e := Change(row, 0, leafOf(1, 2))
		if e != api.OK || len(got) != w {
			t.Errorf("Change(%s, 0) = %s, %d", tell(row), tell(got), e)
		}
		l, keys := planned(t, row, 0, 1)
		if got, e = Commit(row, 0, l, keys); e != api.OK || len(got) != w {
			t.Errorf("Commit(%s, 0) = %s, %d", tell(row), tell(got), e)
		}
	}
}

// P14.2, P14.3, P1: numbers that are no leaf, also those of which the double is a place of the tree, whatever else is wrong.
func TestNoLeaf(t *testing.T) {
	for _, w := range append([]int{0}, widths...) {
		for _, full := range []func(x int) bool{all, evens, never} {
			row := build(w, full, nobody)
			for _, i := range append([]int{leaves(w), leaves(w) + 1, w, w + 1, 2 * w, math.MinInt + w/2, math.MinInt/2 + w/4}, far...) {
				if i >= 0 && i < leaves(w) {
					continue
				}
				for _, c := range said[:8] {
					removed, e := Remove(row, i)
					changed, err := Change(row, i, c.l)
					made, third := Commit(row, i, c.l, keysOf(i&3, 1))
					if e != api.ErrRange || err != api.ErrRange || third != api.ErrRange || len(removed)+len(changed)+len(made) != 0 {
						t.Errorf("of %s the leaf %d, %s: %d, %d, %d", tell(row), i, c.what, e, err, third)
					}
				}
			}
		}
	}
}

// P14.2, P14.3: a leaf that is blank, whatever else is wrong, and whatever stands above it.
func TestBlankLeaf(t *testing.T) {
	for _, w := range widths {
		for i := range leaves(w) {
			for k, full := range []func(x int) bool{never, odds, func(x int) bool { return x != 2*i }} {
				row := build(w, full, nobody)
				for _, c := range said[:8] {
					removed, e := Remove(row, i)
					changed, err := Change(row, i, c.l)
					made, third := Commit(row, i, c.l, keysOf(k, 1))
					if e != api.ErrBlank || err != api.ErrBlank || third != api.ErrBlank || len(removed)+len(changed)+len(made) != 0 {
						t.Errorf("of %s the leaf %d, %s: %d, %d, %d", tell(row), i, c.what, e, err, third)
					}
				}
			}
		}
	}
}

// P14.3: each leaf of trees of each width makes its way up, with the keys that its way asks.
func TestCommit(t *testing.T) {
	for _, w := range widths {
		for k, full := range some(w) {
			row := build(w, full, naming[k%len(naming)])
			for i := range leaves(w) {
				// Of a great tree not each leaf is tried each time, nor each blank one.
				if w > 15 && (k > 3 && i%7 != k%7 || !full(2*i)) {
					continue
				}
				l, keys := planned(t, row, i, k)
				checkCommit(t, row, i, l, keys)
			}
		}
	}
}

// P14.3: what becomes of each node, told by itself: those on the way beside which somebody is have the keys, the others on it are blank, the leaf says what it was to say, and all else is as it was.
func TestCommitted(t *testing.T) {
	for _, w := range widths {
		for k, full := range some(w) {
			i := k * 5 % leaves(w)
			row := build(w, func(x int) bool { return x == 2*i || full(x) }, few)
			l, keys := planned(t, row, i, k)
			got, e := Commit(row, i, l, keys)
			if e != api.OK || len(got) != w || !equal(got[2*i], api.Node{Kind: 1, Leaf: l}) {
				t.Fatalf("Commit(%s, %d) = %s, %d", tell(row), i, tell(got), e)
			}
			way, onWay := resolve.Filter(row, i), above(i, w)
			for x, n := range got {
				at := slices.Index(way, x)
				switch {
				case x == 2*i:
				case at >= 0:
					if n.Kind != api.InnerNode || !bytes.Equal(n.Inner.Enc, keys[at]) || len(n.Inner.Unmerged) != 0 || !chain.Valid(got, x) {
						t.Errorf("Commit(%s, %d): %d is %v", tell(row), i, x, n)
					}
				case slices.Contains(onWay, x):
					if !equal(n, blank) {
						t.Errorf("Commit(%s, %d): %d is %v", tell(row), i, x, n)
					}
				case !equal(n, row[x]):
					t.Errorf("Commit(%s, %d): %d is %v, was %v", tell(row), i, x, n, row[x])
				}
			}
		}
	}
}

// P14.3: keys that a way may be given, and what is wrong with each.
func TestCommitKeys(t *testing.T) {
	row := build(7, evens, nobody)
	ok, over, empty := []byte{1}, long(201), []byte{}
	for _, c := range []struct {
		keys [][]byte
		e    api.Errno
	}{
		{[][]byte{ok, ok}, api.OK}, {[][]byte{long(200), long(200)}, api.OK}, {[][]byte{ok, {2}}, api.OK},
		{nil, api.ErrPath}, {[][]byte{}, api.ErrPath}, {[][]byte{ok}, api.ErrPath}, {[][]byte{ok, ok, ok}, api.ErrPath}, {[][]byte{empty}, api.ErrPath}, {[][]byte{over, empty, nil}, api.ErrPath}, {make([][]byte, 1<<16), api.ErrPath},
		{[][]byte{empty, ok}, api.ErrEmpty}, {[][]byte{ok, nil}, api.ErrEmpty}, {[][]byte{nil, over}, api.ErrEmpty},
		{[][]byte{over, ok}, api.ErrLarge}, {[][]byte{ok, over}, api.ErrLarge}, {[][]byte{over, nil}, api.ErrLarge}, {[][]byte{ok, long(1 << 20)}, api.ErrLarge},
	} {
		for i := range 4 {
			_, h, e := chain.Plan(row, i, c.keys)
			if e != c.e {
				t.Fatalf("Plan(%s, %d, %d keys): %d", tell(row), i, len(c.keys), e)
			}
			l := leafOf(i, 3)
			l.Parent = h
			if got, e := Commit(row, i, l, c.keys); e != c.e || (len(got) == 0) != (e != api.OK) {
				t.Errorf("Commit(%s, %d, %d keys) = %s, %d, want %d", tell(row), i, len(c.keys), tell(got), e, c.e)
			}
			// What is wrong with the keys is told ahead of what the leaf says that is not planned.
			l.Parent = []byte("another")
			want := c.e
			if want == api.OK {
				want = api.ErrHash
			}
			if got, e := Commit(row, i, l, c.keys); e != want || len(got) != 0 {
				t.Errorf("Commit(%s, %d, %d keys), which says another parent: %s, %d, want %d", tell(row), i, len(c.keys), tell(got), e, want)
			}
			checkCommit(t, row, i, l, c.keys)
		}
	}
}

// P14.3: what is wrong with what the leaf is to say, or that it is no commit, is told ahead of what is wrong with the keys, or with its parent.
func TestCommitErrors(t *testing.T) {
	row := build(7, func(x int) bool { return x != 2 }, nobody)
	good := keysOf(2, 1)
	for _, c := range said {
		for _, keys := range [][][]byte{good, nil, {{1}}, {nil, {1}}, {{1}, long(201)}} {
			for i, e := range map[int]api.Errno{0: c.e[3], 1: api.ErrBlank, 3: c.e[3], 4: api.ErrRange, -1: api.ErrRange} {
				if e == api.OK {
					// There is no parent in it, but one is planned.
					_, _, e = chain.Plan(row, i, keys)
					if e == api.OK {
						e = api.ErrHash
					}
				}
				if got, err := Commit(row, i, c.l, keys); err != e || len(got) != 0 {
					t.Errorf("%s: Commit(%s, %d, %d keys) = %s, %d, want %d", c.what, tell(row), i, len(keys), tell(got), err, e)
				}
				checkCommit(t, row, i, c.l, keys)
			}
		}
	}
}

// P14.3: a leaf that says anything but the parent hash that is planned is rejected: another one's, one for other keys, one of the tree as it was, more, less, nothing.
func TestCommitHash(t *testing.T) {
	row := build(15, func(x int) bool { return evens(x) && x != 10 }, nobody)
	for i := range 8 {
		if i == 5 {
			continue
		}
		l, keys := planned(t, row, i, 1)
		other, _ := planned(t, row, (i+1)%4, 1)
		keyed, _ := planned(t, row, i, 2)
		later, _, e := Add(row, leafOf(9, 1))
		if e != api.OK {
			t.Fatal(e)
		}
		earlier, _ := planned(t, later, i, 1)
		first, last := bytes.Clone(l.Parent), bytes.Clone(l.Parent)
		first[0] ^= 1
		last[31] ^= 128
		for k, parent := range [][]byte{nil, {}, {0}, l.Parent[:31], l.Parent[1:], append(slices.Clone(l.Parent), 0), first, last, make([]byte, 32), other.Parent, keyed.Parent, earlier.Parent, long(200), l.Enc} {
			bad := l
			bad.Parent = parent
			if got, e := Commit(row, i, bad, keys); e != api.ErrHash || len(got) != 0 {
				t.Errorf("%d: Commit(%s, %d) = %s, %d", k, tell(row), i, tell(got), e)
			}
			checkCommit(t, row, i, bad, keys)
		}
		if got, e := Commit(row, i, l, keys); e != api.OK || !chain.Verify(got) {
			t.Errorf("Commit(%s, %d) = %s, %d", tell(row), i, tell(got), e)
		}
	}
}

// P14.3: a leaf beside whose way nobody is asks no key, and says no parent, be that nil or not; all of its way is blank.
func TestCommitAlone(t *testing.T) {
	for _, w := range widths {
		for i := range leaves(w) {
			row := build(w, func(x int) bool { return x == 2*i || odds(x) && slices.Contains(above(i, w), x) }, nobody)
			want := make([]api.Node, w)
			want[2*i] = api.Node{Kind: 1, Leaf: leafOf(i, 3)}
			for _, none := range [][]byte{nil, {}} {
				l := leafOf(i, 3)
				l.Parent = none
				if got, e := Commit(row, i, l, nil); e != api.OK || !same(got, want) {
					t.Errorf("Commit(%s, %d) = %s, %d", tell(row), i, tell(got), e)
				}
				if got, e := Commit(row, i, l, [][]byte{{1}}); e != api.ErrPath || len(got) != 0 {
					t.Errorf("Commit(%s, %d) with a key: %s, %d", tell(row), i, tell(got), e)
				}
				l.Parent = []byte{1}
				if got, e := Commit(row, i, l, [][]byte{}); e != api.ErrHash || len(got) != 0 {
					t.Errorf("Commit(%s, %d) with a parent: %s, %d", tell(row), i, tell(got), e)
				}
			}
		}
	}
}

// checkHolds tests what is always so: the last half has a leaf, unmerged leaves are there and below (and named by all between), and somebody made each node.
func checkHolds(t *testing.T, row []api.Node) {
	t.Helper()
	if !shape.Sane(row) {
		t.Errorf("%s is no tree", tell(row))
	}
	if len(row) > 0 && !slices.ContainsFunc(row[len(row)/2:], isLeaf) {
		t.Errorf("the last half of %s has no leaf", tell(row))
	}
	for x, n := range row {
		for _, i := range n.Inner.Unmerged {
			way := above(i, len(row))
			at := slices.Index(way, x)
			if at < 0 || 2*i >= len(row) || row[2*i].Kind != api.LeafNode {
				t.Errorf("of %s: %d names %d", tell(row), x, i)
				continue
			}
			for _, y := range way[at:] {
				if row[y].Kind == api.InnerNode && !slices.Contains(row[y].Inner.Unmerged, i) {
					t.Errorf("of %s: %d names %d, and %d does not", tell(row), x, i, y)
				}
			}
		}
	}
	if !chain.Verify(row) {
		t.Errorf("%s is not valid", tell(row))
	}
}

// next is the first leaf that is there from a number on, and round from the first one on; -1 if none is.
func next(row []api.Node, k int) int {
	n := leaves(len(row))
	for at := range n {
		if i := (k + at) % n; row[2*i].Kind == api.LeafNode {
			return i
		}
	}
	return -1
}

// did does one thing to a tree that may have so many nodes, as a number tells, and tells what comes of it.
func did(t *testing.T, row []api.Node, k, most int) []api.Node {
	t.Helper()
	i := next(row, k/8)
	want, j, err := wantAdd(row, leafOf(k, 1))
	var got []api.Node
	var e api.Errno
	switch what := k % 8; {
	case i < 0 || what < 3 && err == api.OK && len(want) <= most:
		at := 0
		if got, at, e = Add(row, leafOf(k, 1)); at != j {
			t.Fatalf("Add(%s): the leaf %d, want %d", tell(row), at, j)
		}
	case what == 3 || what == 4:
		got, e = Remove(row, i)
		want, err = wantRemove(row, i)
	case what == 5:
		got, e = Change(row, i, leafOf(k, 2))
		want, err = wantChange(row, i, leafOf(k, 2))
	default:
		l, keys := planned(t, row, i, k)
		got, e = Commit(row, i, l, keys)
		want, err = wantCommit(row, i, l, keys)
	}
	if e != api.OK || e != err || !same(got, want) {
		t.Fatalf("of %s came %s, %d, by %d, want %s, %d", tell(row), tell(got), e, k, tell(want), err)
	}
	return got
}

// P14.4: whatever is done, step by step, in trees of each width: the last half has a leaf, unmerged leaves are there and below, and all is valid.
func TestHistories(t *testing.T) {
	for _, w := range widths {
		row, seed, widest := []api.Node(nil), uint32(w), 0
		for k := range 500 {
			seed = seed*1664525 + 1013904223
			how := int(seed >> 8)
			// Now and again most leaves come, or go, so that the tree grows as wide as it may, and is cut.
			switch {
			case k/100%2 == 0 && how%8 == 3:
				how -= 3
			case k/100%2 == 1 && how%8 < 2:
				how |= 3
			}
			before, was := row, copied(row)
			row = did(t, row, how, w)
			widest = max(widest, len(row))
			if !same(before, was) {
				t.Fatalf("%s became %s behind %d steps", tell(was), tell(before), k)
			}
			if checkHolds(t, row); t.Failed() {
				t.Fatalf("behind %d steps, of %s", k, tell(before))
			}
			if w < 31 || k%20 == 3 {
				checkAll(t, row, k%(leaves(len(row))+1), k)
			}
		}
		if widest != w {
			t.Errorf("no tree was wider than %d, of %d", widest, w)
		}
	}
}

// P14.4: all trees of up to four leaves that may come about, each told once by what its nodes are, and all that may be done to each.
func TestAllSmall(t *testing.T) {
	seen := map[string]bool{}
	var todo [][]api.Node
	reach := func(row []api.Node, e api.Errno) {
		if e != api.OK {
			t.Fatalf("%s: %d", tell(row), e)
		}
		if told := tell(row); len(row) <= 7 && !seen[told] {
			seen[told] = true
			todo = append(todo, row)
		}
	}
	reach(nil, api.OK)
	for k := 0; k < len(todo); k++ {
		row := todo[k]
		checkHolds(t, row)
		more, _, e := Add(row, leafOf(k, 1))
		reach(more, e)
		for i := range leaves(len(row)) {
			checkAll(t, row, i, k)
			if row[2*i].Kind == api.Blank {
				continue
			}
			reach(Remove(row, i))
			reach(Change(row, i, leafOf(k, 2)))
			l, keys := planned(t, row, i, k)
			reach(Commit(row, i, l, keys))
		}
	}
	if len(todo) < 100 {
		t.Errorf("only %d trees came about", len(todo))
	}
}

// P14.1 to P14.3: all trees of up to four leaves, also those that never come about, whose inner nodes are blank, name nobody, or name some.
func TestSmallTrees(t *testing.T) {
	for _, w := range []int{1, 3, 7} {
		row := make([]api.Node, w)
		var fill func(x int)
		fill = func(x int) {
			if x == w {
				for i := range leaves(w) {
					checkAll(t, row, i, i)
				}
				return
			}
			choices := []api.Node{blank, nodeOf(x)}
			if odds(x) {
				choices = []api.Node{blank, innerOf(x), innerOf(x, 1, 2, 9)}
			}
			for _, n := range choices {
				row[x] = n
				fill(x + 1)
			}
		}
		fill(0)
	}
}

// Lists without elements are nothing, whether they are nil or not (R3).
func TestEmptyLists(t *testing.T) {
	row := build(15, func(x int) bool { return x%4 != 3 }, nobody)
	full := copied(row)
	for x, n := range row {
		if n.Kind != api.LeafNode {
			full[x].Leaf = api.Leaf{Enc: []byte{}, Cred: []byte{}, Parent: []byte{}}
		}
		if n.Kind != api.InnerNode {
			full[x].Inner = api.Inner{Enc: []byte{}, Hash: []byte{}, Unmerged: []int{}}
		} else {
			full[x].Inner.Unmerged = []int{}
		}
	}
	for i := range 8 {
		checkAll(t, full, i, i)
		a, _ := Remove(row, i)
		if b, e := Remove(full, i); e != api.OK || !same(a, b) {
			t.Errorf("Remove(%s, %d) = %s, %d, want %s", tell(full), i, tell(b), e, tell(a))
		}
	}
	l := api.Leaf{Enc: []byte{1}, Cred: []byte{}, Source: 1, Parent: []byte{}}
	checkAdd(t, full, l)
	l.Source = 2
	checkChange(t, full, 3, l)
}

// wrongs are nodes that no tree has at some place.
func wrongs() []api.Node {
	l, i := leafOf(1, 1), innerOf(1, 2).Inner
	key, over := []byte("k"), long(201)
	return []api.Node{
		{Kind: 3}, {Kind: -1}, {Kind: 257, Leaf: l}, {Kind: 1<<32 + 2, Inner: i}, {Kind: 1}, {Kind: 2}, {Leaf: l}, {Inner: i}, {Kind: 1, Leaf: l, Inner: i}, {Kind: 1, Leaf: l, Inner: api.Inner{Unmerged: []int{0}}}, {Kind: 2, Leaf: l, Inner: i},
		{Kind: 1, Leaf: api.Leaf{Enc: over, Source: 1}}, {Kind: 1, Leaf: api.Leaf{Enc: key}}, {Kind: 2, Inner: api.Inner{Enc: over}},
		{Kind: 2, Inner: api.Inner{Enc: key, Unmerged: []int{64}}}, {Kind: 2, Inner: api.Inner{Enc: key, Unmerged: []int{-1}}}, {Kind: 2, Inner: api.Inner{Enc: key, Unmerged: []int{1, 1}}}, {Kind: 2, Inner: api.Inner{Enc: key, Unmerged: []int{2, 1}}}, {Kind: 2, Inner: api.Inner{Enc: key, Unmerged: make([]int, 65)}},
		{Kind: 2, Inner: api.Inner{Enc: key, Unmerged: []int{math.MinInt}}}, {Kind: 2, Inner: api.Inner{Enc: key, Unmerged: []int{0, math.MaxInt}}},
	}
}

// noTrees are rows that are no tree, by each of the things that a tree must be.
func noTrees() [][]api.Node {
	var out [][]api.Node
	for n := range 131 {
		if n > 0 && !slices.Contains(widths, n) {
			out = append(out, make([]api.Node, n), build(n, all, nobody), build(n, evens, nobody))
		}
	}
	out = append(out, make([]api.Node, 255), build(255, evens, nobody), build(511, all, nobody))
	for _, w := range widths {
		for _, x := range []int{0, w / 2, w - 1} {
			misplaced := nodeOf(x)
			if evens(x) {
				misplaced = innerOf(x)
			}
			for _, n := range append(wrongs(), misplaced) {
				for _, full := range []func(int) bool{all, evens, never} {
					row := build(w, full, nobody)
					row[x] = n
					out = append(out, row)
				}
			}
		}
	}
	return out
}

// checkNoTree tests that what is no tree counts as the empty one in each call, and stays as it was.
func checkNoTree(t *testing.T, given []api.Node, numbers ...int) {
	t.Helper()
	row, untouched := roomy(given)
	l := leafOf(len(given), 1)
	if got, i, e := Add(row, l); e != api.OK || i != 0 || !same(got, []api.Node{{Kind: 1, Leaf: l}}) {
		t.Errorf("Add(%s) = %s, %d, %d", tell(given), tell(got), i, e)
	}
	if got, i, e := Add(row, leafOf(1, 2)); e != api.ErrKind || i != -1 || len(got) != 0 {
		t.Errorf("Add(%s), of an update: %s, %d, %d", tell(given), tell(got), i, e)
	}
	for _, i := range numbers {
		removed, e := Remove(row, i)
		changed, err := Change(row, i, leafOf(1, 2))
		made, third := Commit(row, i, leafOf(1, 3), keysOf(i&1, 1))
		if e != api.ErrRange || err != api.ErrRange || third != api.ErrRange || len(removed)+len(changed)+len(made) != 0 {
			t.Errorf("of %s the leaf %d: %d, %d, %d", tell(given), i, e, err, third)
		}
	}
	if !untouched() {
		t.Errorf("%s became %s", tell(given), tell(row))
	}
}

// R5, P1: what is no tree counts as the empty one in each call.
func TestNoTrees(t *testing.T) {
	for k, row := range noTrees() {
		if shape.Sane(row) {
			t.Fatalf("%s is a tree", tell(row))
		}
		n := len(row)
		checkNoTree(t, row, 0, 1, n/4, n/2, n-1, n, far[k%len(far)])
	}
	checkNoTree(t, nil, append([]int{0, 1}, far...)...)
	checkNoTree(t, []api.Node{}, 0, 1)
}

// The chapter's example: three leaves added, the second one removed, another one added: it is the second one.
func TestExample(t *testing.T) {
	var row []api.Node
	for k := range 3 {
		got, i, e := Add(row, leafOf(k, 1))
		if e != api.OK || i != k {
			t.Fatalf("Add(%s) = %s, %d, %d", tell(row), tell(got), i, e)
		}
		row = got
	}
	fewer, e := Remove(row, 1)
	if e != api.OK || len(fewer) != 7 || !equal(fewer[2], blank) {
		t.Fatalf("Remove(%s, 1) = %s, %d", tell(row), tell(fewer), e)
	}
	got, i, e := Add(fewer, leafOf(9, 1))
	want := make([]api.Node, 7)
	for at, k := range []int{0, 9, 2} {
		want[2*at] = api.Node{Kind: 1, Leaf: leafOf(k, 1)}
	}
	if e != api.OK || i != 1 || !same(got, want) {
		t.Errorf("Add(%s) = %s, %d, %d, want %s", tell(fewer), tell(got), i, e, tell(want))
	}
}

// A tree that was answered stays as it was, whatever is made of it, or of the one that it was made of.
func TestAnswersStay(t *testing.T) {
	row := build(15, func(x int) bool { return x != 10 && x != 14 }, few)
	l, keys := planned(t, row, 2, 1)
	a, _, _ := Add(row, leafOf(1, 1))
	b, _ := Remove(row, 3)
	c, _ := Change(row, 4, leafOf(2, 2))
	d, _ := Commit(row, 2, l, keys)
	made := [][]api.Node{row, a, b, c, d, build(15, evens, nobody), build(15, all, few)}
	var was [][]api.Node
	for _, one := range made {
		was = append(was, copied(one))
	}
	for k, one := range made {
		// Twice each, so that what is laid behind the first answer would be seen in it.
		for again := range 2 {
			p, _, e := Add(one, leafOf(50+again, 1))
			kept := copied(p)
			q, _, err := Add(one, leafOf(60+again, 1))
			_, _, _ = Add(p, leafOf(70, 1))
			_, _, _ = Add(q, leafOf(71, 1))
			_, _ = Remove(p, 0)
			_, _ = Change(p, 1, leafOf(72, 2))
			l, keys := planned(t, p, 1, 3)
			_, third := Commit(p, 1, l, keys)
			if e != api.OK || err != api.OK || third != api.OK || !same(p, kept) || !same(one, was[k]) {
				t.Errorf("%s, of %s, was %s; %d, %d, %d", tell(p), tell(one), tell(kept), e, err, third)
			}
		}
	}
	for k, one := range made {
		if !same(one, was[k]) {
			t.Errorf("%s became %s", tell(was[k]), tell(one))
		}
	}
}

// What is told hangs on the arguments alone: asked again, with others asked between, the same is told.
func TestAskedAgain(t *testing.T) {
	for _, w := range widths {
		fulls := some(w)
		for k, full := range fulls {
			i := k % leaves(w)
			row := build(w, func(x int) bool { return x == 2*i || full(x) }, naming[k%len(naming)])
			other := build(w, fulls[(k*31+7)%len(fulls)], nobody)
			l, keys := planned(t, row, i, k)
			tellAll := func() ([]api.Node, int) {
				a, j, e := Add(row, leafOf(k, 1))
				b, f := Remove(row, i)
				c, g := Change(row, i, leafOf(k, 2))
				d, h := Commit(row, i, l, keys)
				return slices.Concat(a, b, c, d), j + 1000*int(e) + 1000000*int(f+g+h)
			}
			a, m := tellAll()
			checkAll(t, other, i, k)
			row = copied(row)
			if b, n := tellAll(); m != n || !same(a, b) {
				t.Errorf("of %s: %d, then %d", tell(row), m, n)
			}
		}
	}
}

// P1: also of a tree of which all that may be said is said no call takes long; nor where what is given is long.
func TestFullest(t *testing.T) {
	full := long(200)
	row := make([]api.Node, 127)
	for x := range row {
		row[x] = api.Node{Kind: api.InnerNode, Inner: api.Inner{Enc: full, Hash: full, Unmerged: everybody(0)}}
		if evens(x) {
			row[x] = api.Node{Kind: api.LeafNode, Leaf: api.Leaf{Enc: full, Cred: full, Source: 3, Parent: full}}
		}
	}
	for i := range 64 {
		keys := slices.Repeat([][]byte{full}, 6)
		l := api.Leaf{Enc: full, Cred: full, Source: 3}
		_, l.Parent, _ = chain.Plan(row, i, keys)
		if got, e := Commit(row, i, l, keys); e != api.OK || len(got) != 127 {
			t.Errorf("Commit(%s, %d): %d", tell(row), i, e)
		}
	}
	checkAdd(t, row, leafOf(1, 1))
	checkRemove(t, row, 63)
	checkChange(t, row, 0, leafOf(1, 2))
	row[126] = blank
	checkAdd(t, row, leafOf(1, 1))
	great := make([]api.Node, 1<<20)
	if _, i, e := Add(great, leafOf(1, 1)); i != 0 || e != api.OK {
		t.Errorf("Add of 2^20 nodes: %d, %d", i, e)
	}
	if _, e := Commit(row, 1, leafOf(1, 3), make([][]byte, 1<<20)); e != api.ErrPath {
		t.Errorf("Commit with 2^20 keys: %d", e)
	}
}

// P1, R5, P14.1 to P14.3: rows of any nodes, by an octet each, and leaves that say anything, are told as the chapter says, or count as the empty tree.
func FuzzRows(f *testing.F) {
	for _, s := range []string{"", "\x00", "\x01", "\x01\x00\x01", "\x01\x01\x00", "\x01\x00\x01\x00\x00\x00\x01", "\x01\x05\x01\x00\x02\x09\x00", "\x01\x01", "\x00\x00\x80", "\x01\x07\x01\x01\x01\x06\x01\x01\x01\x05\x01\x01\x00\x05\x01", strings.Repeat("\x01\x03\x01\x01\x00", 26)[:127], strings.Repeat("\x01", 127)} {
		for source := range 5 {
			f.Add([]byte(s), source, source, []byte("key"), []byte{}, []byte{}, []byte("k"))
			f.Add([]byte(s), math.MinInt+source, source, []byte{}, []byte("who"), []byte("above"), []byte{})
		}
	}
	bad := wrongs()
	f.Fuzz(func(t *testing.T, b []byte, i, source int, enc, cred, parent, key []byte) {
		// Of longer rows there is nothing new to tell.
		b = b[:min(len(b), 300)]
		var row []api.Node
		for at, octet := range b {
			k, n := int(octet), blank
			switch {
			case k >= 128:
				n = bad[k%len(bad)]
			case k%4 == 0:
			case evens(at):
				n = nodeOf(k)
			default:
				n = innerOf(k, naming[k/4%3](at)...)
			}
			row = append(row, n)
		}
		if !shape.Sane(row) {
			checkNoTree(t, row, i, i&63)
			return
		}
		l := api.Leaf{Enc: enc, Cred: cred, Source: source, Parent: parent}
		checkAdd(t, row, l)
		for _, at := range []int{i, i & 63} {
			keys := slices.Repeat([][]byte{key}, len(resolve.Filter(row, at)))
			checkRemove(t, row, at)
			checkChange(t, row, at, l)
			checkCommit(t, row, at, l, keys)
			checkCommit(t, row, at, l, [][]byte{key})
			said := l
			_, said.Parent, _ = chain.Plan(row, at, keys)
			checkCommit(t, row, at, said, keys)
			checkAll(t, row, at, source)
		}
	})
}

// P14.4: what is done step by step, by two octets each, from the empty tree on, keeps what is always so.
func FuzzHistories(f *testing.F) {
	f.Add([]byte("some of what may be done to a tree, one thing behind the other"))
	f.Add([]byte{0, 0, 0, 0, 0, 0, 6, 0, 0, 0, 0, 0, 14, 0, 3, 0, 0, 0, 21, 0, 11, 0, 7, 0})
	f.Fuzz(func(t *testing.T, b []byte) {
		// Longer ones would tell nothing new.
		b = b[:min(len(b), 200)]
		var row []api.Node
		for ; len(b) >= 2; b = b[2:] {
			row = did(t, row, int(b[0])|int(b[1])<<8, 63)
			checkHolds(t, row)
		}
		checkAll(t, row, 1, 1)
	})
}
