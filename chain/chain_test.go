package chain

import (
	"bytes"
	"crypto/sha256"
	"math"
	"slices"
	"strconv"
	"strings"
	"testing"

	"cordwood/api"
	"cordwood/node"
	"cordwood/shape"
)

// widths are how many nodes a tree that is not the empty one may have.
var widths = []int{1, 3, 7, 15, 31, 63, 127}

// far are numbers that are no node of any tree, and no leaf; of some the double runs over into those that are.
var far = []int{math.MinInt, math.MinInt + 1, math.MinInt + 2, math.MinInt + 31, math.MinInt + 63, math.MinInt / 2, math.MinInt/2 + 1, math.MinInt32, -128, -127, -64, -2, -1, 127, 128, 129, 254, 255, 256, 1 << 31, 1<<32 - 1, 1 << 32, 1<<32 + 2, 1 << 62, 1<<62 + 1, math.MaxInt - 1, math.MaxInt}

// The blank node, and what stands in the room behind a row, behind keys, and behind octets, that are given.
var (
	blank       = api.Node{}
	beyond      = api.Node{Kind: -77, Inner: api.Inner{Hash: []byte("beyond")}}
	beyondBytes = bytes.Repeat([]byte("beyond"), 8)
)

// place is where a node stands: its children and its parent (-1: none), and what is below it.
type place struct{ left, right, up, least, last int }

// drawn are the places of each width, drawn as halves of halves, by no number's digits.
var drawn = func() map[int][]place {
	out := map[int][]place{0: nil}
	for _, w := range widths {
		d := make([]place, w)
		var half func(least, last, up int) int
		half = func(least, last, up int) int {
			x := (least + last) / 2
			d[x] = place{-1, -1, up, least, last}
			if least < last {
				d[x].left, d[x].right = half(least, x-1, x), half(x+1, last, x)
			}
			return x
		}
		half(0, w-1, -1)
		out[w] = d
	}
	return out
}()

// isUnder is whether a node is another one, or below it.
func isUnder(x, at, w int) bool { return drawn[w][at].least <= x && x <= drawn[w][at].last }

// has is what Resolve is to tell of a node of a tree.
func has(t []api.Node, x int) []int {
	p, n := drawn[len(t)][x], t[x]
	switch {
	case n.Kind != api.Blank:
		out := []int{x}
		for _, i := range n.Inner.Unmerged {
			out = append(out, 2*i)
		}
		return out
	case p.left < 0:
		return nil
	}
	return append(has(t, p.left), has(t, p.right)...)
}

// fork is a node on a leaf's way up: its child on the way, and the one beside it.
type fork struct{ x, on, beside int }

// forks are the nodes on a leaf's way up, from the root down.
func forks(i, w int) []fork {
	var out []fork
	for x := w / 2; x != 2*i; {
		p := drawn[w][x]
		f := fork{x, p.left, p.right}
		if 2*i > x {
			f.on, f.beside = f.beside, f.on
		}
		out = append(out, f)
		x = f.on
	}
	return out
}

// filtered are those of them beside which somebody is.
func filtered(t []api.Node, i int) []fork {
	return slices.DeleteFunc(forks(i, len(t)), func(f fork) bool { return len(has(t, f.beside)) == 0 })
}

// hashOf is the hash of a node of a tree without some leaves.
func hashOf(t []api.Node, x int, gone []int) []byte {
	n, p := t[x], drawn[len(t)][x]
	var b []byte
	if p.left < 0 {
		if slices.Contains(gone, x/2) {
			n = blank
		}
		b = node.OfLeaf(x/2, n)
	} else {
		n.Inner.Unmerged = slices.DeleteFunc(slices.Clone(n.Inner.Unmerged), func(i int) bool { return slices.Contains(gone, i) })
		b = node.OfInner(n, hashOf(t, p.left, gone), hashOf(t, p.right, gone))
	}
	h := sha256.Sum256(b)
	return h[:]
}

// givenBy is the parent hash that an inner node gives to those below a child, beside which the other one stands.
func givenBy(t []api.Node, x, beside int) []byte {
	h := sha256.Sum256(node.OfParent(t[x].Inner, hashOf(t, beside, t[x].Inner.Unmerged)))
	return h[:]
}

// wantPlan is what Plan is to tell.
func wantPlan(t []api.Node, i int, keys [][]byte) ([]api.Node, []byte, api.Errno) {
	if i < 0 || i >= (len(t)+1)/2 {
		return nil, nil, api.ErrRange
	}
	way := filtered(t, i)
	if len(keys) != len(way) {
		return nil, nil, api.ErrPath
	}
	for _, key := range keys {
		switch {
		case len(key) == 0:
			return nil, nil, api.ErrEmpty
		case len(key) > 200:
			return nil, nil, api.ErrLarge
		}
	}
	out := copied(t)
	for _, f := range forks(i, len(t)) {
		out[f.x] = blank
	}
	var h []byte
	for k, f := range way {
		out[f.x] = api.Node{Kind: api.InnerNode, Inner: api.Inner{Enc: keys[len(keys)-1-k], Hash: h}}
		h = givenBy(out, f.x, f.beside)
	}
	return out, h, api.OK
}

// wantLink is what Link is to tell of a tree.
func wantLink(t []api.Node, x, c, d int) bool {
	w := len(t)
	if x < 0 || x >= w || d < 0 || d >= w || t[x].Kind != api.InnerNode || t[d].Kind == api.Blank {
		return false
	}
	p := drawn[w][x]
	if c != p.left && c != p.right {
		return false
	}
	var others, named []int
	all := has(t, c)
	for _, at := range all {
		if at != d {
			others = append(others, at)
		}
	}
	for _, i := range t[x].Inner.Unmerged {
		if isUnder(2*i, c, w) {
			named = append(named, 2*i)
		}
	}
	if !slices.Contains(all, d) || !slices.Equal(others, named) {
		return false
	}
	said := t[d].Inner.Hash
	if t[d].Kind == api.LeafNode {
		said = t[d].Leaf.Parent
	}
	return bytes.Equal(said, givenBy(t, x, p.left+p.right-c))
}

// wantValid is what Valid is to tell of a tree.
func wantValid(t []api.Node, x int) bool {
	if x < 0 || x >= len(t) {
		return false
	}
	if t[x].Kind != api.InnerNode {
		return true
	}
	p := drawn[len(t)][x]
	for d := range t {
		if wantLink(t, x, p.left, d) || wantLink(t, x, p.right, d) {
			return true
		}
	}
	return false
}

// leafOf is a leaf that is another one for each number, from each of the places that one may come from.
func leafOf(k int) api.Node {
	n := api.Node{Kind: api.LeafNode, Leaf: api.Leaf{Enc: []byte{byte(k), 'l'}, Cred: []byte("who"), Source: k/2%3 + 1}}
	if n.Leaf.Source == 3 {
		n.Leaf.Parent = []byte("above")
	}
	return n
}

// committed is a leaf that says a parent hash.
func committed(k int, said []byte) api.Node {
	return api.Node{Kind: api.LeafNode, Leaf: api.Leaf{Enc: []byte{byte(k), 'c'}, Source: 3, Parent: said}}
}

// innerOf is an inner node that is another one for each number, with these unmerged leaves.
func innerOf(k int, unmerged ...int) api.Node {
	return api.Node{Kind: api.InnerNode, Inner: api.Inner{Enc: []byte{byte(k), 'i'}, Hash: []byte{9}, Unmerged: unmerged}}
}

// build is a tree of so many nodes: of which full tells it, they are not blank, and unmerged tells what the inner ones name.
func build(w int, full func(x int) bool, unmerged func(x int) []int) []api.Node {
	t := make([]api.Node, w)
	for x := range t {
		switch {
		case !full(x):
		case x%2 == 0:
			t[x] = leafOf(x)
		default:
			t[x] = innerOf(x, unmerged(x)...)
		}
	}
	return t
}

// all, evens, odds and never tell places.
func all(int) bool     { return true }
func evens(x int) bool { return x%2 == 0 }
func odds(x int) bool  { return x%2 != 0 }
func never(int) bool   { return false }

// some are ways to tell which nodes of a width are not blank: none, all, leaves or inner nodes alone, one, all but one, those up to one, and mixtures.
func some(w int) []func(x int) bool {
	out := []func(x int) bool{never, all, evens, odds}
	// Of a great tree not each node is tried, but some of each level.
	step := max(1, w/9)
	for at := 0; at < w; at += step {
		out = append(out,
			func(x int) bool { return x == at },
			func(x int) bool { return x != at },
			func(x int) bool { return x <= at },
			func(x int) bool { return x == at || odds(x) },
			func(x int) bool { return x == at || evens(x) },
			func(x int) bool { return x*x%(at+5) < 2 },
		)
	}
	return out
}

// nobody, everybody and few name unmerged leaves; what is named need be no leaf of the tree, nor below the node.
func nobody(int) []int { return nil }
func everybody(int) []int {
	var out []int
	for i := range api.MaxLeaves {
		out = append(out, i)
	}
	return out
}
func few(x int) []int {
	var out []int
	for i := range api.MaxLeaves {
		if (i*x+x)%7 == 3 {
			out = append(out, i)
		}
	}
	return out
}

// naming are ways to name unmerged leaves.
var naming = []func(x int) []int{nobody, few, everybody}

// keysOf are so many keys, each another one.
func keysOf(n, k int) [][]byte {
	out := make([][]byte, n)
	for at := range out {
		out[at] = []byte{byte(at), byte(k), 'k'}
	}
	return out
}

// tell tells a row by its nodes, without filling pages.
func tell(t []api.Node) string {
	var b strings.Builder
	for x, n := range t {
		if x == 32 {
			b.WriteString(" ..")
			break
		}
		switch n.Kind {
		case api.Blank:
			b.WriteString(" -")
		case api.LeafNode:
			b.WriteString(" l")
		case api.InnerNode:
			b.WriteString(" i")
			for _, u := range n.Inner.Unmerged {
				b.WriteString("," + strconv.Itoa(u))
			}
		default:
			b.WriteString(" kind " + strconv.Itoa(n.Kind))
		}
	}
	return "[" + b.String() + " ] of " + strconv.Itoa(len(t))
}

// copied are nodes that share no memory with those that are given.
func copied(t []api.Node) []api.Node {
	out := slices.Clone(t)
	for x, n := range out {
		out[x].Leaf.Enc, out[x].Leaf.Cred, out[x].Leaf.Parent = bytes.Clone(n.Leaf.Enc), bytes.Clone(n.Leaf.Cred), bytes.Clone(n.Leaf.Parent)
		out[x].Inner.Enc, out[x].Inner.Hash, out[x].Inner.Unmerged = bytes.Clone(n.Inner.Enc), bytes.Clone(n.Inner.Hash), slices.Clone(n.Inner.Unmerged)
	}
	return out
}

// same is whether two rows have the same nodes.
func same(a, b []api.Node) bool { return slices.EqualFunc(a, b, equal) }

// equal is whether two nodes have the same fields.
func equal(a, b api.Node) bool {
	l, m, i, j := a.Leaf, b.Leaf, a.Inner, b.Inner
	return a.Kind == b.Kind && l.Source == m.Source && bytes.Equal(l.Enc, m.Enc) && bytes.Equal(l.Cred, m.Cred) && bytes.Equal(l.Parent, m.Parent) && bytes.Equal(i.Enc, j.Enc) && bytes.Equal(i.Hash, j.Hash) && slices.Equal(i.Unmerged, j.Unmerged)
}

// roomy is a row with nodes behind it in its memory, also octets and numbers behind what its nodes say, and what tells whether all of it is as it was.
func roomy(t []api.Node) ([]api.Node, func() bool) {
	whole := slices.Concat(copied(t), slices.Repeat([]api.Node{beyond}, len(t)+2))
	var octets [][]byte
	var numbers [][]int
	room := func(b []byte) []byte {
		octets = append(octets, slices.Concat(b, beyondBytes))
		return octets[len(octets)-1][:len(b)]
	}
	for x, n := range whole {
		whole[x].Leaf.Enc, whole[x].Leaf.Cred, whole[x].Leaf.Parent = room(n.Leaf.Enc), room(n.Leaf.Cred), room(n.Leaf.Parent)
		whole[x].Inner.Enc, whole[x].Inner.Hash = room(n.Inner.Enc), room(n.Inner.Hash)
		numbers = append(numbers, slices.Concat(n.Inner.Unmerged, []int{-77, -77}))
		whole[x].Inner.Unmerged = numbers[x][:len(n.Inner.Unmerged)]
	}
	was := copied(whole)
	return whole[:len(t)], func() bool {
		for _, b := range octets {
			if !bytes.HasSuffix(b, beyondBytes) {
				return false
			}
		}
		for _, l := range numbers {
			if !slices.Equal(l[len(l)-2:], []int{-77, -77}) {
				return false
			}
		}
		return same(whole, was)
	}
}

// roomyKeys are keys with others behind them in their memory, and octets behind each, and what tells whether all of it is as it was.
func roomyKeys(keys [][]byte) ([][]byte, func() bool) {
	var whole, cut, was [][]byte
	for _, key := range append(slices.Clone(keys), beyondBytes) {
		b := slices.Concat(key, beyondBytes)
		whole, cut, was = append(whole, b), append(cut, b[:len(key)]), append(was, bytes.Clone(b))
	}
	return cut[:len(keys)], func() bool {
		for k, b := range whole {
			if !bytes.Equal(b, was[k]) || len(cut[k]) != len(b)-len(beyondBytes) || &cut[k][:1][0] != &b[0] {
				return false
			}
		}
		return true
	}
}

// checkPlan tests what is planned for a leaf of a tree, or for a number that is none, and that neither row nor keys are changed.
func checkPlan(t *testing.T, given []api.Node, i int, keys [][]byte) {
	t.Helper()
	row, untouched := roomy(given)
	own, unmoved := roomyKeys(keys)
	got, said, e := Plan(row, i, own)
	want, h, err := wantPlan(given, i, keys)
	if e != err || !same(got, want) || !bytes.Equal(said, h) {
		t.Errorf("Plan(%s, %d, %d keys) = %s, %x, %d, want %s, %x, %d", tell(given), i, len(keys), tell(got), said, e, tell(want), h, err)
	}
	if e == api.OK && !shape.Sane(got) {
		t.Errorf("Plan(%s, %d, %d keys) = %s is no tree", tell(given), i, len(keys), tell(got))
	}
	if !untouched() || !unmoved() {
		t.Errorf("%s, %x became %s, %x", tell(given), keys, tell(row), own)
	}
}

// checkLink tests whether there is such a Link in a tree.
func checkLink(t *testing.T, row []api.Node, x, c, d int) {
	t.Helper()
	if got, want := Link(row, x, c, d), wantLink(row, x, c, d); got != want {
		t.Errorf("Link(%s, %d, %d, %d) = %t, want %t", tell(row), x, c, d, got, want)
	}
}

// checkMade tests who is valid of a tree, and of numbers that are no node of it, all of its links, some that can't be, and that the row stays as it was.
func checkMade(t *testing.T, given []api.Node) {
	t.Helper()
	row, untouched := roomy(given)
	w, whole := len(row), true
	for x := -2; x < w+3; x++ {
		want := wantValid(given, x)
		if got := Valid(row, x); got != want {
			t.Errorf("Valid(%s, %d) = %t, want %t", tell(given), x, got, want)
		}
		if x < 0 || x >= w {
			checkLink(t, row, x, 0, 0)
			continue
		}
		whole = whole && want
		p := drawn[w][x]
		for _, c := range []int{p.left, p.right, p.up, x} {
			for d := -2; d < w+3; d++ {
				// Of a great tree those are tried that are near, or hold a key.
				if w < 15 || c >= 0 && slices.Contains(has(given, c), d) || d*7%w == x {
					checkLink(t, row, x, c, d)
				}
			}
		}
	}
	if got := Verify(row); got != whole {
		t.Errorf("Verify(%s) = %t, want %t", tell(given), got, whole)
	}
	if !untouched() {
		t.Errorf("%s became %s", tell(given), tell(row))
	}
}

// P13.1: each leaf of trees of each width: with none beside its way, with some, and with all, and all that may be named.
func TestPlan(t *testing.T) {
	for _, w := range widths {
		for k, full := range some(w) {
			row := build(w, full, naming[k%len(naming)])
			for i := range (w + 1) / 2 {
				// Of a great tree not each leaf is tried each time.
				if w > 15 && k > 3 && i%7 != k%7 {
					continue
				}
				checkPlan(t, row, i, keysOf(len(filtered(row, i)), k))
			}
		}
	}
}

// P13.1: a leaf beside whose way nobody is, blank itself or not, makes all of its way blank, and says nothing.
func TestPlanAlone(t *testing.T) {
	for _, w := range widths {
		for i := range (w + 1) / 2 {
			for _, full := range []func(x int) bool{
				func(x int) bool { return x == 2*i },
				never,
				func(x int) bool { return odds(x) && isUnder(2*i, x, w) },
				func(x int) bool { return isUnder(2*i, x, w) },
			} {
				row := build(w, full, nobody)
				want := slices.Clone(row)
				for x := range want {
					if odds(x) {
						want[x] = blank
					}
				}
				got, said, e := Plan(row, i, nil)
				if e != api.OK || !same(got, want) || len(said) != 0 {
					t.Errorf("Plan(%s, %d) = %s, %x, %d", tell(row), i, tell(got), said, e)
				}
				if _, _, e := Plan(row, i, [][]byte{{1}}); e != api.ErrPath {
					t.Errorf("Plan(%s, %d) with a key: %d", tell(row), i, e)
				}
			}
		}
	}
}

// P13.1: what becomes of each node, told by itself: of those on the way just those are not blank beside which somebody is, and all else is as it was.
func TestPlanned(t *testing.T) {
	for _, w := range widths {
		for k, full := range some(w) {
			row := build(w, full, naming[k%len(naming)])
			i := k * 5 % ((w + 1) / 2)
			way := filtered(row, i)
			keys := keysOf(len(way), k)
			got, said, e := Plan(row, i, keys)
			if e != api.OK || len(got) != w {
				t.Fatalf("Plan(%s, %d): %s, %d", tell(row), i, tell(got), e)
			}
			for x, n := range got {
				at := slices.IndexFunc(way, func(f fork) bool { return f.x == x })
				switch {
				case at >= 0:
					if n.Kind != api.InnerNode || !bytes.Equal(n.Inner.Enc, keys[len(way)-1-at]) || len(n.Inner.Unmerged) != 0 || (len(n.Inner.Hash) == 0) != (at == 0) {
						t.Errorf("Plan(%s, %d): %d is %v", tell(row), i, x, n)
					}
				case odds(x) && isUnder(2*i, x, w):
					if !equal(n, blank) {
						t.Errorf("Plan(%s, %d): %d is %v", tell(row), i, x, n)
					}
				case !equal(n, row[x]):
					t.Errorf("Plan(%s, %d): %d is %v, was %v", tell(row), i, x, n, row[x])
				}
			}
			for at, f := range way {
				below := said
				if at+1 < len(way) {
					below = got[way[at+1].x].Inner.Hash
				}
				if !bytes.Equal(below, givenBy(got, f.x, f.beside)) {
					t.Errorf("Plan(%s, %d): %x below %d, want %x", tell(row), i, below, f.x, givenBy(got, f.x, f.beside))
				}
			}
			if (len(said) == 32) != (len(way) > 0) {
				t.Errorf("Plan(%s, %d): the leaf says %x", tell(row), i, said)
			}
		}
	}
}

// sum is the library's sum of octets, laid one behind the other.
func sum(parts ...string) string {
	h := sha256.Sum256([]byte(strings.Join(parts, "")))
	return string(h[:])
}

// P13.1, P13.2: what is summed up, written out octet by octet.
func TestOctets(t *testing.T) {
	leaf := func(k byte) api.Node { return api.Node{Kind: 1, Leaf: api.Leaf{Enc: []byte{k}, Source: 1}} }
	row := []api.Node{leaf(1), blank, leaf(2), blank, leaf(3), blank, blank}
	two := sum("\x01\x00\x00\x00\x01\x01\x01\x02\x00\x01")
	four := sum("\x01\x00\x00\x00\x02\x01\x01\x03\x00\x01")
	six := sum("\x01\x00\x00\x00\x03\x00")
	five := sum("\x02\x00", "\x20", four, "\x20", six)
	hash := sum("\x02\x08\x09", "\x00", "\x20", five)
	want := sum("\x01\x07", "\x20", hash, "\x20", two)
	got, said, e := Plan(row, 0, [][]byte{{7}, {8, 9}})
	if e != api.OK || len(got) != 7 || string(said) != want || string(got[1].Inner.Hash) != hash || len(got[3].Inner.Hash) != 0 {
		t.Fatalf("Plan(%s, 0) = %v, %x, %d, want %x and %x", tell(row), got, said, e, hash, want)
	}
	if !Link(got, 3, 1, 1) || Link(got, 1, 0, 0) {
		t.Errorf("of %v: by the leaf ahead of what it says", got)
	}
	got[0] = committed(1, []byte(want))
	if !Link(got, 1, 0, 0) || !Verify(got) {
		t.Errorf("of %v: not by the leaf", got)
	}
	// A leaf that comes later, and a node beside the way that knows it not either.
	five = sum("\x02\x01\x01\x05\x00\x00", "\x20", four, "\x20", six)
	got[6], got[3].Inner.Unmerged = leaf(4), []int{3}
	got[5] = api.Node{Kind: 2, Inner: api.Inner{Enc: []byte{5}, Unmerged: []int{3}}}
	got[1].Inner.Hash = []byte(sum("\x02\x08\x09", "\x00", "\x20", five))
	if !Link(got, 3, 1, 1) {
		t.Errorf("of %v: not without the leaf 3", got)
	}
}

// P13.1: each error of Plan, in the order in which they are told, and which of several wrong keys tells it.
func TestPlanErrors(t *testing.T) {
	full, over, empty, ok := bytes.Repeat([]byte{7}, 200), make([]byte, 201), []byte{}, []byte{1}
	row := build(7, evens, nobody)
	for _, c := range []struct {
		i    int
		keys [][]byte
		e    api.Errno
	}{
		{0, [][]byte{ok, ok}, api.OK}, {3, [][]byte{full, full}, api.OK}, {1, [][]byte{ok, full}, api.OK},
		{4, [][]byte{ok, ok}, api.ErrRange}, {-1, [][]byte{ok, ok}, api.ErrRange}, {7, [][]byte{ok, ok}, api.ErrRange}, {4, nil, api.ErrRange}, {-1, [][]byte{over}, api.ErrRange}, {4, [][]byte{empty, over}, api.ErrRange},
		{0, nil, api.ErrPath}, {0, [][]byte{}, api.ErrPath}, {0, [][]byte{ok}, api.ErrPath}, {0, [][]byte{ok, ok, ok}, api.ErrPath}, {0, [][]byte{empty}, api.ErrPath}, {0, [][]byte{over}, api.ErrPath}, {0, [][]byte{ok, ok, empty}, api.ErrPath}, {2, [][]byte{over, empty, nil}, api.ErrPath}, {0, make([][]byte, 1<<16), api.ErrPath},
		{0, [][]byte{empty, ok}, api.ErrEmpty}, {0, [][]byte{ok, empty}, api.ErrEmpty}, {0, [][]byte{nil, ok}, api.ErrEmpty}, {0, [][]byte{ok, nil}, api.ErrEmpty}, {0, [][]byte{empty, over}, api.ErrEmpty}, {0, [][]byte{nil, nil}, api.ErrEmpty},
		{0, [][]byte{over, ok}, api.ErrLarge}, {0, [][]byte{ok, over}, api.ErrLarge}, {3, [][]byte{over, empty}, api.ErrLarge}, {3, [][]byte{full, make([]byte, 1<<20)}, api.ErrLarge}, {3, [][]byte{over, over}, api.ErrLarge},
	} {
		p, said, e := Plan(row, c.i, c.keys)
		if e != c.e || (len(p) == 0) != (e != api.OK) || (len(said) == 0) != (e != api.OK) {
			t.Errorf("Plan(%s, %d, %d keys) = %s, %x, %d, want %d", tell(row), c.i, len(c.keys), tell(p), said, e, c.e)
		}
	}
	long := [][]byte{ok, ok, over, empty, ok, empty}
	great := build(127, evens, nobody)
	if _, _, e := Plan(great, 40, long); e != api.ErrLarge {
		t.Errorf("%d, where the third key is the first that is wrong", e)
	}
	long[1] = nil
	if _, _, e := Plan(great, 40, long); e != api.ErrEmpty {
		t.Errorf("%d, where the second key is the first that is wrong", e)
	}
}

// P13.1: keys are as many as nodes of Filter, not as many as those on the way.
func TestPlanKeys(t *testing.T) {
	for _, w := range widths {
		for k, full := range some(w) {
			row := build(w, full, nobody)
			i := k * 3 % ((w + 1) / 2)
			want := len(filtered(row, i))
			for n := range 9 {
				if p, said, e := Plan(row, i, keysOf(n, 1)); (e == api.OK) != (n == want) || e != api.OK && (e != api.ErrPath || len(p) != 0 || len(said) != 0) {
					t.Errorf("Plan(%s, %d, %d keys) = %s, %x, %d, want %d keys", tell(row), i, n, tell(p), said, e, want)
				}
			}
		}
	}
}

// P13.1, P13.2, P13.3: numbers that are no leaf, or no node, also those of which the double runs over.
func TestNoNodes(t *testing.T) {
	for _, w := range append([]int{0}, widths...) {
		for _, row := range [][]api.Node{build(w, all, nobody), build(w, never, nobody)} {
			for _, n := range append([]int{w, w + 1, 2 * w, math.MinInt + w/2}, far...) {
				if p, said, e := Plan(row, n, nil); (n < 0 || n >= (w+1)/2) && (e != api.ErrRange || len(p) != 0 || len(said) != 0) {
					t.Errorf("Plan(%s, %d) = %s, %x, %d", tell(row), n, tell(p), said, e)
				}
				if n >= 0 && n < w {
					continue
				}
				if Valid(row, n) {
					t.Errorf("Valid(%s, %d)", tell(row), n)
				}
				for _, m := range []int{n, 0, 1, w / 2, -1} {
					if Link(row, n, m, m) || Link(row, m, n, m) || Link(row, m, m, n) || Link(row, w/2, m, n) || Link(row, w/2, n, m) {
						t.Errorf("Link(%s) of %d and %d", tell(row), n, m)
					}
				}
			}
		}
	}
}

// wait lays a new leaf where a blank one is; those above do not know it.
func wait(row []api.Node, i int) []api.Node {
	out := copied(row)
	out[2*i] = api.Node{Kind: api.LeafNode, Leaf: api.Leaf{Enc: []byte{byte(i), 'n'}, Source: 1}}
	for _, f := range forks(i, len(row)) {
		if n := &out[f.x]; n.Kind == api.InnerNode && !slices.Contains(n.Inner.Unmerged, i) {
			n.Inner.Unmerged = append(n.Inner.Unmerged, i)
			slices.Sort(n.Inner.Unmerged)
		}
	}
	return out
}

// leave makes a leaf, and its way up, blank.
func leave(row []api.Node, i int) []api.Node {
	out := copied(row)
	out[2*i] = blank
	for _, f := range forks(i, len(row)) {
		out[f.x] = blank
	}
	return out
}

// commit lets a leaf make its way up anew, and say what it is to say.
func commit(t *testing.T, row []api.Node, i, k int) []api.Node {
	t.Helper()
	out, said, e := Plan(row, i, keysOf(len(filtered(row, i)), k))
	if e != api.OK {
		t.Fatalf("Plan(%s, %d): %d", tell(row), i, e)
	}
	out = copied(out)
	out[2*i] = committed(k, said)
	return out
}

// eight is a tree of eight leaves: the leaf 6 made its way up, then the leaf 0; 3 and 7 came later.
func eight(t *testing.T) []api.Node {
	t.Helper()
	row := build(15, func(x int) bool { return evens(x) && x != 6 && x != 14 }, nobody)
	row = wait(wait(commit(t, commit(t, row, 6, 1), 0, 2), 3), 7)
	var kinds []int
	for _, n := range row {
		kinds = append(kinds, n.Kind)
	}
	if !slices.Equal(kinds, []int{1, 2, 1, 2, 1, 0, 1, 2, 1, 0, 1, 2, 1, 0, 1}) {
		t.Fatalf("%s", tell(row))
	}
	return row
}

// link is who made whose way, by which child.
type link struct{ x, c, d int }

// links are all that there are in that tree: of leaves and of inner nodes, by children that are blank and by those that are not, on either side.
var links = []link{{1, 0, 0}, {3, 1, 1}, {7, 3, 3}, {11, 13, 12}}

// P13.2, P13.3: where there is a Link, and nowhere else.
func TestLinks(t *testing.T) {
	row := eight(t)
	for x := -1; x < 16; x++ {
		for c := -1; c < 16; c++ {
			for d := -1; d < 16; d++ {
				if got, want := Link(row, x, c, d), slices.Contains(links, link{x, c, d}); got != want {
					t.Errorf("Link(%s, %d, %d, %d) = %t", tell(row), x, c, d, got)
				}
			}
		}
		if got, want := Valid(row, x), x >= 0 && x < 15; got != want {
			t.Errorf("Valid(%s, %d) = %t", tell(row), x, got)
		}
	}
	if !Verify(row) {
		t.Errorf("Verify(%s)", tell(row))
	}
	for _, l := range links {
		for _, n := range far {
			if Link(row, n, l.c, l.d) || Link(row, l.x, n, l.d) || Link(row, l.x, l.c, n) {
				t.Errorf("Link of %d, in the place of one of %v", n, l)
			}
		}
	}
}

// change is a single thing that is done to that tree, and the links that are left then.
type change struct {
	what string
	do   func(t []api.Node)
	left []link
}

// What may become of octets.
func more(h []byte) []byte  { return append(h, 0) }
func fewer(h []byte) []byte { return h[:31] }
func first(h []byte) []byte { h[0] ^= 1; return h }
func last(h []byte) []byte  { h[31] ^= 128; return h }
func nothing([]byte) []byte { return nil }
func another([]byte) []byte { return []byte("another") }

// saidChanges change what nodes say, and what it is made of.
func saidChanges() []change {
	a, b, c, d := links[0], links[1], links[2], links[3]
	hash := func(x int, f func(h []byte) []byte) func([]api.Node) {
		return func(t []api.Node) { t[x].Inner.Hash = f(t[x].Inner.Hash) }
	}
	said := func(x int, f func(h []byte) []byte) func([]api.Node) {
		return func(t []api.Node) { t[x].Leaf.Parent = f(t[x].Leaf.Parent) }
	}
	key := func(x int) func([]api.Node) {
		return func(t []api.Node) { t[x].Inner.Enc = []byte("another") }
	}
	return []change{
		{"nothing", func([]api.Node) {}, links},
		{"the hash of 3: another first bit", hash(3, first), []link{a, d}},
		{"the hash of 3: another last bit", hash(3, last), []link{a, d}},
		{"the hash of 3: an octet more", hash(3, more), []link{a, d}},
		{"the hash of 3: an octet fewer", hash(3, fewer), []link{a, d}},
		{"the hash of 3: none", hash(3, nothing), []link{a, d}},
		{"the hash of 1: another first bit", hash(1, first), []link{c, d}},
		{"the hash of 1: none", hash(1, nothing), []link{c, d}},
		{"the hash of 7: some", hash(7, another), []link{a, b, d}},
		{"the hash of 11: another one", hash(11, another), []link{a, b}},
		{"the parent of 0: another first bit", said(0, first), []link{b, c, d}},
		{"the parent of 0: another last bit", said(0, last), []link{b, c, d}},
		{"the parent of 0: an octet more", said(0, more), []link{b, c, d}},
		{"the parent of 0: an octet fewer", said(0, fewer), []link{b, c, d}},
		{"the parent of 0: none", said(0, nothing), []link{b, c, d}},
		{"the parent of 0: what 12 says", func(t []api.Node) { t[0].Leaf.Parent = t[12].Leaf.Parent }, []link{b, c, d}},
		{"the parent of 12: another last bit", said(12, last), []link{a, b}},
		{"the key of 1", key(1), []link{b, c, d}},
		{"the key of 3", key(3), []link{a, c, d}},
		{"the key of 7", key(7), []link{a, b, d}},
		{"the key of 11", key(11), []link{a, b}},
		{"what is wrong with 0", func(t []api.Node) { t[0].Leaf.Source = 4 }, nil},
		{"what is wrong with 14", func(t []api.Node) { t[14].Kind = 3 }, nil},
		{"what is wrong with 9", func(t []api.Node) { t[9].Inner.Hash = []byte{1} }, nil},
	}
}

// nodeChanges put others at places.
func nodeChanges() []change {
	a, b, c, d := links[0], links[1], links[2], links[3]
	stands := func(x int, n api.Node) func([]api.Node) {
		return func(t []api.Node) { t[x] = n }
	}
	instead := func(x, maker int, unmerged ...int) func([]api.Node) {
		return func(t []api.Node) {
			t[x] = innerOf(x, unmerged...)
			t[x].Inner.Hash = t[maker].Leaf.Parent
		}
	}
	return []change{
		{"0, which made 1, is blank", stands(0, blank), []link{b, c, d}},
		{"0 says no parent", stands(0, leafOf(2)), []link{b, c, d}},
		{"12, which made 11, is blank", stands(12, blank), []link{a, b}},
		{"1, which made 3, is blank", stands(1, blank), []link{c, d}},
		{"3, which made 7, is blank", stands(3, blank), []link{a, d}},
		{"7 is blank", stands(7, blank), []link{a, b, d}},
		{"11 is blank", stands(11, blank), []link{a, b}},
		{"2, beside 0, is another one", stands(2, leafOf(9)), []link{b, c, d}},
		{"2, beside 0, is blank", stands(2, blank), []link{b, c, d}},
		{"4, beside 1, is another one", stands(4, leafOf(9)), []link{a, c, d}},
		{"5, beside 1, is not blank", stands(5, innerOf(5)), []link{a, c, d}},
		{"8, beside 3 and 13, is another one", stands(8, leafOf(9)), []link{a, b}},
		{"9, beside 3 and 13, is not blank", stands(9, innerOf(9)), []link{a, b}},
		{"6, which came later, is another one", stands(6, leafOf(9)), links},
		{"6, which came later, is blank", stands(6, blank), links},
		{"14, which came later, is another one", stands(14, leafOf(9)), links},
		{"14, which came later, is blank", stands(14, blank), []link{a, b, c}},
		{"13 is not blank, and has all below it", stands(13, innerOf(13)), []link{a, b}},
		{"13 is not blank, and knows neither", instead(13, 12, 6, 7), []link{a, b}},
		{"13 is not blank, and says what 12 says", instead(13, 12), []link{a, b}},
		{"13 is there instead of 12", instead(13, 12, 7), []link{a, b, {11, 13, 13}}},
		{"1 says what 0 says", instead(1, 0), []link{c, d}},
	}
}

// unmergedChanges change which leaves are unmerged.
func unmergedChanges() []change {
	a, b, c, d := links[0], links[1], links[2], links[3]
	unmerged := func(x int, u ...int) func([]api.Node) {
		return func(t []api.Node) { t[x].Inner.Unmerged = u }
	}
	return []change{
		{"of 7 one fewer below 3", unmerged(7, 7), []link{a, b, d}},
		{"of 7 one fewer beside 3", unmerged(7, 3), []link{a, b, d}},
		{"of 7 none", unmerged(7), []link{a, b, d}},
		{"of 7 one more below 3", unmerged(7, 1, 3, 7), []link{a, b, d}},
		{"of 7 the first one more", unmerged(7, 0, 3, 7), []link{a, b, d}},
		{"of 7 one more beside 3", unmerged(7, 3, 5, 7), []link{a, b, d}},
		{"of 7 another one below 3", unmerged(7, 2, 7), []link{a, b, d}},
		{"of 7 one more, which is no leaf of the tree", unmerged(7, 3, 7, 50), links},
		{"of 3 none", unmerged(3), []link{a, d}},
		{"of 3 one more", unmerged(3, 2, 3), []link{a, d}},
		{"of 3 one more, which made it", unmerged(3, 0, 3), []link{a, d}},
		{"of 3 one more, which is beside it", unmerged(3, 3, 5), []link{a, b, d}},
		{"of 3 one more, which is no leaf of the tree", unmerged(3, 3, 9), []link{a, b, d}},
		{"of 1 the leaf beside its maker", unmerged(1, 1), []link{c, d}},
		{"of 1 its maker", unmerged(1, 0), []link{c, d}},
		{"of 11 none", unmerged(11), []link{a, b, c}},
		{"of 11 its maker too", unmerged(11, 6, 7), []link{a, b}},
		{"of 11 its maker alone", unmerged(11, 6), []link{a, b}},
		{"of 11 one more, beside 13", unmerged(11, 4, 7), []link{a, b}},
		{"of 11 one more, which is beside it, and unmerged further up", unmerged(11, 3, 7), links},
		{"of 11 one more, which is beside it, and known further up", unmerged(11, 1, 7), []link{a, b, d}},
	}
}

// P13.2, P13.3: each single thing of what is asked is wrong in turn: who has a link then, and so is valid.
func TestChanges(t *testing.T) {
	for _, c := range slices.Concat(saidChanges(), nodeChanges(), unmergedChanges()) {
		row := copied(eight(t))
		c.do(row)
		whole := true
		for x := range row {
			made := row[x].Kind != api.InnerNode
			for at := range row {
				for to := range row {
					want := slices.Contains(c.left, link{x, at, to})
					made = made || want
					if got := Link(row, x, at, to); got != want {
						t.Errorf("%s: Link(%s, %d, %d, %d) = %t", c.what, tell(row), x, at, to, got)
					}
				}
			}
			made = made && shape.Sane(row)
			whole = whole && made
			if got := Valid(row, x); got != made {
				t.Errorf("%s: Valid(%s, %d) = %t", c.what, tell(row), x, got)
			}
		}
		if got, want := Verify(row), whole || !shape.Sane(row); got != want {
			t.Errorf("%s: Verify(%s) = %t", c.what, tell(row), got)
		}
	}
}

// P13.2: those that have a key are held against the unmerged ones one by one, in order, each as often as it is there.
func TestInOrder(t *testing.T) {
	for _, c := range []struct {
		what          string
		second, third bool
		names, of1    []int
		want          bool
	}{
		{"both behind", true, true, []int{2, 3}, nil, true},
		{"one of them again, ahead", true, true, []int{2, 3}, []int{3}, false},
		{"one of them again, and nobody else", true, false, []int{2}, []int{2}, false},
		{"the later one ahead, not in its place", true, false, []int{2, 3}, []int{3}, false},
		{"the one in its place ahead", true, false, []int{2, 3}, []int{2}, false},
		{"the later one ahead, nobody in its place", false, false, []int{3}, []int{3}, true},
		{"one of those that 1 names is not below", true, true, []int{2, 3}, []int{5}, false},
	} {
		row := make([]api.Node, 15)
		for _, x := range []int{0, 8} {
			row[x] = leafOf(x)
		}
		row[1], row[7] = innerOf(1, c.of1...), innerOf(7, c.names...)
		if c.second {
			row[4] = leafOf(4)
		}
		if c.third {
			row[6] = leafOf(6)
		}
		row[1].Inner.Hash = givenBy(row, 7, 11)
		if got := Link(row, 7, 3, 1); got != c.want || wantLink(row, 7, 3, 1) != c.want {
			t.Errorf("%s: Link(%s, 7, 3, 1) = %t", c.what, tell(row), got)
		}
		if got := Valid(row, 7); got != c.want {
			t.Errorf("%s: Valid(%s, 7) = %t", c.what, tell(row), got)
		}
	}
}

// P13.2: c is a child of x, no other node: not one further down, not one beside or above, also where one that has a key there says what x would give by it.
func TestNoChild(t *testing.T) {
	for _, w := range []int{3, 7, 15} {
		for x := 1; x < w; x += 2 {
			for c, p := range drawn[w] {
				row := build(w, func(at int) bool { return evens(at) || at == x }, nobody)
				all := has(row, c)
				d := all[0]
				if d == x {
					continue
				}
				for _, at := range all[1:] {
					row[x].Inner.Unmerged = append(row[x].Inner.Unmerged, at/2)
				}
				// Beside the root is nothing, and so is its hash.
				said := sum(string(node.OfParent(row[x].Inner, nil)))
				if p.up >= 0 {
					said = string(givenBy(row, x, drawn[w][p.up].left+drawn[w][p.up].right-c))
				}
				row[d] = committed(d, []byte(said))
				if got, want := Link(row, x, c, d), p.up == x; got != want {
					t.Errorf("Link(%s, %d, %d, %d) = %t", tell(row), x, c, d, got)
				}
			}
		}
	}
}

// P13.2: x is an inner one, not one that is blank, nor a leaf, whatever the one below it says.
func TestNoInner(t *testing.T) {
	for _, x := range []int{1, 3, 5} {
		row := build(7, func(at int) bool { return at%4 == 0 }, nobody)
		p := drawn[7][x]
		d := has(row, p.left)[0]
		row[d] = committed(d, givenBy(row, x, p.right))
		if Link(row, x, p.left, d) || Link(row, d, p.left, d) || Link(row, d, -1, d) || Link(row, d, d, d) {
			t.Errorf("Link(%s, %d, %d, %d)", tell(row), x, p.left, d)
		}
		if !Verify(row) {
			t.Errorf("Verify(%s)", tell(row))
		}
	}
}

// P13.2: d has a key for c: it isn't one beside it, nor one that is below another that has, whatever it says; also where nobody has, or where all who have are unmerged.
func TestNoKey(t *testing.T) {
	nodes := func(full ...int) []api.Node {
		return build(7, func(x int) bool { return slices.Contains(full, x) }, nobody)
	}
	for _, c := range []struct {
		row      []api.Node
		unmerged []int
		x, c, d  int
		want     bool
	}{
		{nodes(1, 2, 4), nil, 1, 0, 4, false},
		{nodes(0, 1, 2, 4), []int{0}, 1, 0, 4, false},
		{nodes(0, 1, 2, 4), nil, 1, 0, 4, false},
		{nodes(0, 1, 2, 5), []int{0}, 1, 0, 5, false},
		{nodes(0, 2, 3, 4, 6), []int{0}, 3, 1, 2, true},
		{nodes(0, 1, 2, 3, 4, 6), nil, 3, 1, 2, false},
		{nodes(0, 1, 2, 3, 4, 6), []int{0}, 3, 1, 2, false},
	} {
		c.row[c.x].Inner.Unmerged = c.unmerged
		p := drawn[7][c.x]
		said := givenBy(c.row, c.x, p.left+p.right-c.c)
		if c.row[c.d].Kind == api.LeafNode {
			c.row[c.d] = committed(c.d, said)
		} else {
			c.row[c.d].Inner.Hash = said
		}
		if got := Link(c.row, c.x, c.c, c.d); got != c.want || Valid(c.row, c.x) != c.want {
			t.Errorf("Link(%s, %d, %d, %d) = %t", tell(c.row), c.x, c.c, c.d, got)
		}
	}
}

// P13.2, P13.3: trees of each width, with all, some and no nodes, and all that they may name.
func TestTrees(t *testing.T) {
	checkMade(t, nil)
	checkMade(t, []api.Node{})
	for _, w := range widths {
		for k, full := range some(w) {
			// Of a great tree some ways to be full are tried, each with one way to name.
			if w > 31 && k%5 != 1 {
				continue
			}
			for n, unmerged := range naming {
				if w <= 7 || k%len(naming) == n {
					checkMade(t, build(w, full, unmerged))
				}
			}
		}
	}
}

// P13.1 to P13.3: all trees of up to four leaves, whose inner nodes are blank, name nobody, or name some; and what is planned for each of their leaves.
func TestSmallTrees(t *testing.T) {
	for _, w := range []int{1, 3, 7} {
		row := make([]api.Node, w)
		var fill func(x int)
		fill = func(x int) {
			if x == w {
				checkMade(t, row)
				for i := range (w + 1) / 2 {
					for n := range 3 {
						checkPlan(t, row, i, keysOf(n, x))
					}
				}
				return
			}
			choices := []api.Node{blank, leafOf(x)}
			if odds(x) {
				choices = []api.Node{blank, innerOf(x), innerOf(x, 1, 2, 9)}
			}
			for _, n := range choices {
				row[x] = n
				fill(x + 1)
			}
		}
		fill(0)
	}
}

// P13.3: blank nodes and leaves are valid, of whatever kind those beside them are, inner nodes that nobody made are not.
func TestValid(t *testing.T) {
	for _, w := range widths {
		for k, full := range some(w) {
			row := build(w, full, naming[k%len(naming)])
			whole := true
			for x, n := range row {
				want := n.Kind != api.InnerNode
				whole = whole && want
				if got := Valid(row, x); got != want {
					t.Errorf("Valid(%s, %d) = %t", tell(row), x, got)
				}
			}
			if got := Verify(row); got != whole {
				t.Errorf("Verify(%s) = %t", tell(row), got)
			}
		}
	}
}

// P13.3: one node that is not valid, wherever it is, is enough.
func TestOneNotValid(t *testing.T) {
	for _, w := range widths {
		for x := 1; x < w; x += 2 {
			row := build(w, evens, nobody)
			if !Verify(row) {
				t.Fatalf("Verify(%s)", tell(row))
			}
			row[x] = innerOf(x)
			if Verify(row) || Valid(row, x) {
				t.Errorf("%s is valid", tell(row))
			}
		}
	}
}

// checkCommitted tests that each node that was planned for a leaf has a Link by its child on the way, to the one planned below it, and the lowest to the leaf.
func checkCommitted(t *testing.T, row []api.Node, way []fork, i int) {
	t.Helper()
	for at, f := range way {
		maker := 2 * i
		if at+1 < len(way) {
			maker = way[at+1].x
		}
		if !Link(row, f.x, f.on, maker) || Link(row, f.x, f.beside, maker) || !Valid(row, f.x) {
			t.Errorf("of %s: %d was not made by %d", tell(row), f.x, maker)
		}
	}
}

// P13.4: what is planned is valid once the leaf says what it is to say, and the lowest node of it is not ahead of that.
func TestPlannedIsValid(t *testing.T) {
	for _, w := range widths {
		for k, full := range some(w) {
			row := build(w, full, naming[k%len(naming)])
			i := k * 11 % ((w + 1) / 2)
			way := filtered(row, i)
			plan, _, e := Plan(row, i, keysOf(len(way), k))
			if e != api.OK {
				t.Fatalf("Plan(%s, %d): %d", tell(row), i, e)
			}
			for at, f := range way {
				if got, want := Valid(plan, f.x), at+1 < len(way); got != want {
					t.Errorf("ahead of the leaf %d: Valid(%s, %d) = %t", i, tell(plan), f.x, got)
				}
			}
			checkCommitted(t, commit(t, row, i, k), way, i)
		}
	}
}

// P13.4: so it is when leaves that a node does not know come later, one by one; leaves that were there may be unmerged, below a node or beside it.
func TestLater(t *testing.T) {
	for _, w := range widths {
		leaves := (w + 1) / 2
		for k, full := range some(w) {
			row := build(w, full, func(x int) []int {
				return slices.DeleteFunc(few(x+k), func(i int) bool { return i >= leaves || !full(2*i) })
			})
			i := k * 11 % leaves
			way := filtered(row, i)
			row = commit(t, row, i, k)
			for j := range leaves {
				// They come in whatever order: of 29 times a number all are reached.
				later := j * 29 % leaves
				if row[2*later].Kind != api.Blank {
					continue
				}
				row = wait(row, later)
				if w < 31 || j%9 == 0 {
					checkCommitted(t, row, way, i)
				}
			}
			checkCommitted(t, row, way, i)
		}
	}
}

// P13.4: in a tree of leaves alone each leaf's way makes a valid tree, and so does each one behind it.
func TestEachCommits(t *testing.T) {
	for _, w := range widths {
		row := build(w, evens, nobody)
		for i := range (w + 1) / 2 {
			if w > 31 && i%5 != 0 {
				continue
			}
			if alone := commit(t, build(w, evens, nobody), i, i); !Verify(alone) {
				t.Errorf("%d alone: %s", i, tell(alone))
			}
			row = commit(t, row, i, i)
			if !Verify(row) {
				t.Errorf("behind %d: %s", i, tell(row))
			}
		}
	}
}

// step does one thing to a tree, as a number tells: a leaf comes, leaves, or makes its way up; or the tree grows.
func step(t *testing.T, row []api.Node, k, most int) []api.Node {
	t.Helper()
	if len(row) == 0 {
		return []api.Node{leafOf(0)}
	}
	i := k / 8 % ((len(row) + 1) / 2)
	is := row[2*i].Kind == api.LeafNode
	switch k % 8 {
	case 0:
		if len(row) < most && !slices.ContainsFunc(row, func(n api.Node) bool { return n.Kind == api.Blank }) {
			return append(copied(row), make([]api.Node, len(row)+1)...)
		}
	case 1, 2:
		if is {
			return leave(row, i)
		}
	case 3, 4:
		if is {
			return commit(t, row, i, k)
		}
		return wait(row, i)
	}
	for at := range (len(row) + 1) / 2 {
		if later := (i + at) % ((len(row) + 1) / 2); row[2*later].Kind == api.Blank {
			return wait(row, later)
		}
	}
	if len(row) < most {
		return append(copied(row), make([]api.Node, len(row)+1)...)
	}
	return commit(t, row, i, k)
}

// spoilt is a tree with one thing that is another one, as a number tells.
func spoilt(row []api.Node, k int) []api.Node {
	out := copied(row)
	n := &out[k/8%len(row)]
	switch {
	case n.Kind == api.LeafNode && k%8 < 4 && len(n.Leaf.Parent) > 0:
		n.Leaf.Parent[k%len(n.Leaf.Parent)] ^= 4
	case n.Kind == api.LeafNode:
		n.Leaf.Enc = append(n.Leaf.Enc, 9)
	case n.Kind == api.Blank && k/8%len(row)%2 == 0:
		*n = leafOf(k)
	case n.Kind == api.Blank:
		*n = innerOf(k)
	case k%8 < 2:
		*n = blank
	case k%8 < 4:
		n.Inner.Hash = append(n.Inner.Hash, 9)
	case k%8 == 4:
		n.Inner.Enc = append(n.Inner.Enc, 9)
	case len(n.Inner.Unmerged) > 0 && k%8 == 5:
		n.Inner.Unmerged = n.Inner.Unmerged[1:]
	default:
		i := k / 64 % 64
		if at, there := slices.BinarySearch(n.Inner.Unmerged, i); !there {
			n.Inner.Unmerged = slices.Insert(n.Inner.Unmerged, at, i)
		}
	}
	return out
}

// P13.2 to P13.4: whatever is done, step by step, all is valid; and of what is spoilt then it is told what is not.
func TestHistories(t *testing.T) {
	for _, w := range widths {
		row, seed := []api.Node(nil), uint32(w)
		for k := range 400 {
			seed = seed*1664525 + 1013904223
			row = step(t, row, int(seed>>8), w)
			if !Verify(row) {
				t.Fatalf("behind %d steps: %s is not valid", k, tell(row))
			}
			if w < 31 || k%20 == 3 {
				bad := spoilt(row, int(seed>>6))
				checkMade(t, row)
				checkMade(t, bad)
				i := k % ((len(row) + 1) / 2)
				checkPlan(t, row, i, keysOf(len(filtered(row, i)), k))
			}
		}
	}
}

// Lists without elements are nothing, whether they are nil or not (R3).
func TestEmptyLists(t *testing.T) {
	row := eight(t)
	for x, n := range row {
		if n.Kind != api.LeafNode {
			row[x].Leaf = api.Leaf{Enc: []byte{}, Cred: []byte{}, Parent: []byte{}}
		}
		if n.Kind != api.InnerNode {
			row[x].Inner = api.Inner{Enc: []byte{}, Hash: []byte{}, Unmerged: []int{}}
		} else if len(n.Inner.Unmerged) == 0 {
			row[x].Inner.Unmerged = []int{}
		}
	}
	for _, l := range links {
		if !Link(row, l.x, l.c, l.d) {
			t.Errorf("Link(%s) of %v", tell(row), l)
		}
	}
	if !Verify(row) {
		t.Errorf("Verify(%s)", tell(row))
	}
	for i := range 8 {
		checkPlan(t, row, i, keysOf(3, i))
	}
}

// wrongs are nodes that no tree has at some place.
func wrongs() []api.Node {
	l, i := leafOf(1).Leaf, innerOf(1, 2).Inner
	key, over := []byte("k"), make([]byte, 201)
	return []api.Node{
		{Kind: 3}, {Kind: -1}, {Kind: 257, Leaf: l}, {Kind: 1<<32 + 2, Inner: i}, {Kind: 1}, {Kind: 2}, {Leaf: l}, {Inner: i}, {Kind: 1, Leaf: l, Inner: i}, {Kind: 1, Leaf: l, Inner: api.Inner{Unmerged: []int{0}}}, {Kind: 2, Leaf: l, Inner: i},
		{Kind: 1, Leaf: api.Leaf{Enc: over, Source: 1}}, {Kind: 1, Leaf: api.Leaf{Enc: key}}, {Kind: 2, Inner: api.Inner{Enc: over}},
		{Kind: 2, Inner: api.Inner{Enc: key, Unmerged: []int{64}}}, {Kind: 2, Inner: api.Inner{Enc: key, Unmerged: []int{-1}}}, {Kind: 2, Inner: api.Inner{Enc: key, Unmerged: []int{1, 1}}}, {Kind: 2, Inner: api.Inner{Enc: key, Unmerged: []int{2, 1}}}, {Kind: 2, Inner: api.Inner{Enc: key, Unmerged: make([]int, 65)}},
		{Kind: 2, Inner: api.Inner{Enc: key, Unmerged: []int{math.MinInt}}}, {Kind: 2, Inner: api.Inner{Enc: key, Unmerged: []int{0, math.MaxInt}}},
	}
}

// noTrees are rows that are no tree, by each of the things that a tree must be.
func noTrees() [][]api.Node {
	var out [][]api.Node
	for n := range 131 {
		if n > 0 && !slices.Contains(widths, n) {
			out = append(out, make([]api.Node, n), build(n, all, nobody), build(n, evens, nobody))
		}
	}
	out = append(out, make([]api.Node, 255), build(255, evens, nobody), build(511, all, nobody))
	for _, w := range widths {
		for _, x := range []int{0, w / 2, w - 1} {
			misplaced := leafOf(x)
			if evens(x) {
				misplaced = innerOf(x)
			}
			for _, n := range append(wrongs(), misplaced) {
				for _, full := range []func(int) bool{all, evens, never} {
					row := build(w, full, nobody)
					row[x] = n
					out = append(out, row)
				}
			}
		}
	}
	return out
}

// checkNoTree tests that what is no tree counts as the empty one in each call, and stays as it was.
func checkNoTree(t *testing.T, given []api.Node, numbers []int) {
	t.Helper()
	row, untouched := roomy(given)
	for _, x := range numbers {
		for n := range 3 {
			if p, said, e := Plan(row, x, keysOf(n, x)); e != api.ErrRange || len(p) != 0 || len(said) != 0 {
				t.Errorf("Plan(%s, %d, %d keys) = %s, %x, %d", tell(given), x, n, tell(p), said, e)
			}
		}
		if Valid(row, x) {
			t.Errorf("Valid(%s, %d)", tell(given), x)
		}
		if Link(row, x, x, x) || Link(row, 1, 0, x) || Link(row, 1, x, 0) || Link(row, x, x-1, x-1) {
			t.Errorf("Link(%s) of %d", tell(given), x)
		}
	}
	if !Verify(row) {
		t.Errorf("Verify(%s)", tell(given))
	}
	if !untouched() {
		t.Errorf("%s became %s", tell(given), tell(row))
	}
}

// R5, P1: what is no tree counts as the empty one in each call.
func TestNoTrees(t *testing.T) {
	for _, row := range noTrees() {
		if shape.Sane(row) {
			t.Fatalf("%s is a tree", tell(row))
		}
		n := len(row)
		checkNoTree(t, row, append([]int{0, 1, 2, 3, n / 4, n / 2, n/2 + 1, n - 1, n}, far...))
	}
	checkNoTree(t, nil, append([]int{0, 1}, far...))
	checkNoTree(t, []api.Node{}, []int{0, 1})
}

// R5: a tree in which all is made, with one thing that no tree has, is the empty one: nobody made anything.
func TestNoTreeWithLinks(t *testing.T) {
	whole := eight(t)
	for x := range whole {
		for _, n := range wrongs() {
			row := slices.Clone(whole)
			row[x] = n
			for _, l := range links {
				if shape.Sane(row) || Link(row, l.x, l.c, l.d) || Valid(row, l.x) || Valid(row, l.d) {
					t.Errorf("of %s, with %v at %d: %v", tell(row), n, x, l)
				}
			}
			if !Verify(row) {
				t.Errorf("Verify(%s), with %v at %d", tell(row), n, x)
			}
		}
	}
}

// The chapter's example: a tree of leaves alone is valid.
func TestExample(t *testing.T) {
	for _, w := range widths {
		for _, full := range []func(int) bool{evens, never, func(x int) bool { return x%4 == 2 }} {
			row := build(w, full, nobody)
			for x := range row {
				if !Valid(row, x) {
					t.Errorf("Valid(%s, %d)", tell(row), x)
				}
			}
			if !Verify(row) {
				t.Errorf("Verify(%s)", tell(row))
			}
		}
	}
}

// The tree that is planned is a row of its own: other nodes put there, or behind it, leave the one that was given, and another plan, as they were; so does what is done to the octets that the leaf is to say.
func TestNewRow(t *testing.T) {
	row, untouched := roomy(eight(t))
	keys := keysOf(3, 9)
	want, h, _ := wantPlan(row, 4, keys)
	first, said, _ := Plan(row, 4, keys)
	second, again, _ := Plan(row, 4, keys)
	for x := range first {
		first[x] = beyond
	}
	_ = append(first, beyond)
	clear(said)
	_ = append(said, 1, 2)
	if !untouched() || !same(second, want) || !bytes.Equal(again, h) {
		t.Errorf("%s, planned %s, %x", tell(row), tell(second), again)
	}
	third, said, e := Plan(row, 4, keys)
	if e != api.OK || !same(third, want) || !bytes.Equal(said, h) {
		t.Errorf("planned again: %s, %x, %d", tell(third), said, e)
	}
	clear(said)
	if !same(third, want) {
		t.Errorf("the leaf's octets are in %s", tell(third))
	}
}

// What is told hangs on the arguments alone: asked again, also with others asked between, the same is told.
func TestAskedAgain(t *testing.T) {
	for _, w := range widths {
		fulls := some(w)
		for k, full := range fulls {
			row, other := build(w, full, naming[k%len(naming)]), build(w, fulls[(k*31+7)%len(fulls)], nobody)
			i := k % ((w + 1) / 2)
			row = commit(t, row, i, k)
			keys := keysOf(len(filtered(row, i)), 5)
			a, b, _ := Plan(row, i, keys)
			v := Verify(row)
			Verify(other)
			Plan(other, i, nil)
			Plan(nil, i, keys)
			Link(other, w/2, w/4, w/4)
			again := copied(row)
			if c, d, e := Plan(again, i, keys); e != api.OK || !same(a, c) || !bytes.Equal(b, d) || Verify(again) != v {
				t.Fatalf("of %s: %s, %x, %t, then %s, %x, %d", tell(row), tell(a), b, v, tell(c), d, e)
			}
		}
	}
}

// P1: also of trees of which all that may be said is said no call takes long.
func TestFullest(t *testing.T) {
	full := bytes.Repeat([]byte{255}, 200)
	n := api.Node{Kind: api.InnerNode, Inner: api.Inner{Enc: full, Hash: full, Unmerged: everybody(0)}}
	for _, level := range []int{1, 3, 7, 15, 31, 63} {
		row := make([]api.Node, 127)
		for x := range row {
			switch {
			case evens(x):
				row[x] = api.Node{Kind: api.LeafNode, Leaf: api.Leaf{Enc: full, Cred: full, Source: 3, Parent: full}}
			case (x+1)%(level+1) == 0:
				row[x] = n
			}
		}
		if Verify(row) || Valid(row, 63) {
			t.Errorf("%s is valid", tell(row))
		}
		keys := slices.Repeat([][]byte{full}, 6)
		if _, said, e := Plan(row, 33, keys); e != api.OK || len(said) != 32 {
			t.Errorf("Plan(%s, 33): %x, %d", tell(row), said, e)
		}
	}
}

// P1, R5, P13.1 to P13.3: rows of any nodes, by an octet each, are told as the chapter says, or count as the empty tree.
func FuzzRows(f *testing.F) {
	for _, s := range []string{"", "\x00", "\x01", "\x01\x00\x01", "\x01\x01\x00", "\x01\x00\x01\x00\x00\x00\x01", "\x01\x05\x01\x00\x02\x09\x00", "\x01\x01", "\x00\x00\x80", "\x00\x07\x01\x00\x00\x06\x01\x00\x01\x00\x00\x00\x00\x05\x01", strings.Repeat("\x00\x03\x01\x00\x00", 26)[:127]} {
		for _, x := range []int{0, 3, math.MinInt + 1} {
			f.Add([]byte(s), x, x, x, []byte("key"))
			f.Add([]byte(s), x, 1, 0, []byte{})
		}
	}
	bad := wrongs()
	f.Fuzz(func(t *testing.T, b []byte, x, c, d int, key []byte) {
		// Of longer rows there is nothing new to tell.
		b = b[:min(len(b), 300)]
		var row []api.Node
		for at, octet := range b {
			k, n := int(octet), blank
			switch {
			case k >= 128:
				n = bad[k%len(bad)]
			case k%4 == 0:
			case evens(at):
				n = leafOf(k)
			default:
				n = innerOf(k, naming[k/4%3](at)...)
			}
			row = append(row, n)
		}
		if !shape.Sane(row) {
			checkNoTree(t, row, []int{x, c, d})
			return
		}
		checkMade(t, row)
		checkLink(t, row, x, c, d)
		checkPlan(t, row, x, [][]byte{key})
		if i := x & 63; i < (len(row)+1)/2 {
			way := filtered(row, i)
			checkPlan(t, row, i, slices.Repeat([][]byte{key}, len(way)))
			row = commit(t, row, i, c)
			checkCommitted(t, row, way, i)
			checkMade(t, row)
		}
	})
}

// P13.1 to P13.4: what is done step by step, by two octets each, is valid, and of what is spoilt then it is told what is not.
func FuzzHistories(f *testing.F) {
	f.Add([]byte("some of what may be done, and what is spoilt"), 12345)
	f.Add([]byte{5, 0, 5, 0, 5, 0, 3, 0, 5, 0, 5, 0, 11, 0, 1, 0, 5, 0}, 77)
	f.Fuzz(func(t *testing.T, b []byte, k int) {
		// Longer ones would tell nothing new.
		b = b[:min(len(b), 120)]
		row := []api.Node{leafOf(0)}
		for ; len(b) >= 2; b = b[2:] {
			row = step(t, row, int(b[0])|int(b[1])<<8, 63)
		}
		if !Verify(row) {
			t.Errorf("%s is not valid", tell(row))
		}
		checkMade(t, row)
		checkMade(t, spoilt(row, k&(1<<30-1)))
	})
}
