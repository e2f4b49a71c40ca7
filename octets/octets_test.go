package octets

import (
	"bytes"
	"math"
	"slices"
	"strconv"
	"strings"
	"testing"

	"cordwood/api"
	"cordwood/chain"
	"cordwood/edit"
	"cordwood/resolve"
	"cordwood/shape"
)

// widths are how many nodes a tree that is not the empty one may have.
var widths = []int{1, 3, 7, 15, 31, 63, 127}

// The blank node, and what stands in the room behind a row that is given.
var (
	blank  = api.Node{}
	beyond = api.Node{Kind: -77, Inner: api.Inner{Hash: []byte("beyond")}}
)

// leafOf is a leaf that is another one for each number, from each of the places that it may come from.
func leafOf(k int) api.Node {
	n := api.Node{Kind: api.LeafNode, Leaf: api.Leaf{Enc: []byte{byte(k), 'l'}, Cred: []byte{'w', byte(k)}, Source: k/2%3 + 1}}
	if n.Leaf.Source == 3 {
		n.Leaf.Parent = []byte("above")
	}
	return n
}

// innerOf is an inner node that is another one for each number, with these unmerged leaves.
func innerOf(k int, unmerged ...int) api.Node {
	return api.Node{Kind: api.InnerNode, Inner: api.Inner{Enc: []byte{byte(k), 'i'}, Hash: []byte{9}, Unmerged: unmerged}}
}

// above are the nodes above a leaf, from the root down, found by halving what is left.
func above(i, w int) []int {
	var out []int
	for least, last := 0, w-1; least < last; {
		x := (least + last) / 2
		out = append(out, x)
		if 2*i < x {
			last = x - 1
		} else {
			least = x + 1
		}
	}
	return out
}

// wantNamed is what Named is to tell of a tree.
func wantNamed(t []api.Node) bool {
	for x, n := range t {
		for _, i := range n.Inner.Unmerged {
			if 2*i >= len(t) || t[2*i].Kind == api.Blank {
				return false
			}
			way := above(i, len(t))
			at := slices.Index(way, x)
			if at < 0 {
				return false
			}
			for _, y := range way[at:] {
				if t[y].Kind == api.InnerNode && !slices.Contains(t[y].Inner.Unmerged, i) {
					return false
				}
			}
		}
	}
	return true
}

// vector are octets behind how many they are.
func vector(v string) string {
	n := len(v)
	switch {
	case n < 64:
		return string([]byte{byte(n)}) + v
	case n < 16384:
		return string([]byte{byte(64 + n/256), byte(n)}) + v
	}
	return string([]byte{byte(128 + n>>24), byte(n >> 16), byte(n >> 8), byte(n)}) + v
}

// octetsOf are a node's octets.
func octetsOf(n api.Node) string {
	switch n.Kind {
	case api.LeafNode:
		out := "\x01\x01" + vector(string(n.Leaf.Enc)) + vector(string(n.Leaf.Cred)) + string([]byte{byte(n.Leaf.Source)})
		if n.Leaf.Source == 3 {
			out += vector(string(n.Leaf.Parent))
		}
		return out
	case api.InnerNode:
		numbers := ""
		for _, i := range n.Inner.Unmerged {
			numbers += string([]byte{byte(i >> 24), byte(i >> 16), byte(i >> 8), byte(i)})
		}
		return "\x01\x02" + vector(string(n.Inner.Enc)) + vector(string(n.Inner.Hash)) + vector(numbers)
	}
	return "\x00"
}

// laid are the octets of nodes, one behind the other, whatever they are.
func laid(l ...api.Node) string {
	var b strings.Builder
	for _, n := range l {
		b.WriteString(octetsOf(n))
	}
	return b.String()
}

// wantPut is what Put is to tell of a tree.
func wantPut(t []api.Node) string {
	for len(t) > 0 && t[len(t)-1].Kind == api.Blank {
		t = t[:len(t)-1]
	}
	return vector(laid(t...))
}

// reader reads octets, one thing behind the other; behind the first thing that is wrong nothing is left.
type reader struct {
	left string
	e    api.Errno
}

// fail tells what is wrong, if nothing was ahead.
func (r *reader) fail(wrong bool, e api.Errno) {
	if wrong && r.e == api.OK {
		r.left, r.e = "", e
	}
}

// octet reads one octet.
func (r *reader) octet() int {
	if r.left == "" {
		r.fail(true, api.ErrShort)
		return 0
	}
	c := r.left[0]
	r.left = r.left[1:]
	return int(c)
}

// vector reads octets behind how many they are.
func (r *reader) vector() string {
	n := r.octet()
	more := []int{0, 1, 3, 0}[n/64]
	r.fail(n >= 192, api.ErrForm)
	n %= 64
	for range more {
		n = n*256 + r.octet()
	}
	r.fail(more == 1 && n < 64 || more == 3 && n < 16384, api.ErrForm)
	r.fail(n > 1<<20, api.ErrLarge)
	r.fail(n > len(r.left), api.ErrShort)
	if r.e != api.OK {
		return ""
	}
	v := r.left[:n]
	r.left = r.left[n:]
	return v
}

// numbers reads numbers of four octets each.
func (r *reader) numbers() []int {
	v := r.vector()
	r.fail(len(v)%4 != 0, api.ErrForm)
	var out []int
	for ; len(v) >= 4; v = v[4:] {
		out = append(out, int(v[0])<<24|int(v[1])<<16|int(v[2])<<8|int(v[3]))
	}
	return out
}

// leaf reads what a leaf says.
func (r *reader) leaf() api.Node {
	l := api.Leaf{Enc: []byte(r.vector()), Cred: []byte(r.vector()), Source: r.octet()}
	r.fail(l.Source < 1 || l.Source > 3, api.ErrKind)
	if l.Source == 3 {
		l.Parent = []byte(r.vector())
	}
	r.fail(len(l.Enc) == 0, api.ErrEmpty)
	r.fail(max(len(l.Enc), len(l.Cred), len(l.Parent)) > 200, api.ErrLarge)
	return api.Node{Kind: api.LeafNode, Leaf: l}
}

// inner reads what an inner node says.
func (r *reader) inner() api.Node {
	n := api.Inner{Enc: []byte(r.vector()), Hash: []byte(r.vector()), Unmerged: r.numbers()}
	r.fail(len(n.Enc) == 0, api.ErrEmpty)
	r.fail(max(len(n.Enc), len(n.Hash)) > 200 || len(n.Unmerged) > 64, api.ErrLarge)
	r.fail(slices.ContainsFunc(n.Unmerged, func(i int) bool { return i > 63 }), api.ErrRange)
	for k := range n.Unmerged {
		r.fail(k > 0 && n.Unmerged[k-1] >= n.Unmerged[k], api.ErrUnmerged)
	}
	return api.Node{Kind: api.InnerNode, Inner: n}
}

// node reads a node.
func (r *reader) node() api.Node {
	there := r.octet()
	r.fail(there > 1, api.ErrForm)
	if there != 1 {
		return blank
	}
	switch r.octet() {
	case 1:
		return r.leaf()
	case 2:
		return r.inner()
	}
	r.fail(true, api.ErrKind)
	return blank
}

// wantGet is what Get is to tell.
func wantGet(b string) ([]api.Node, api.Errno) {
	r := &reader{left: b}
	own := r.vector()
	r.fail(r.left != "", api.ErrForm)
	r.fail(own == "", api.ErrEmpty)
	if r.e != api.OK {
		return nil, r.e
	}
	var t []api.Node
	for r.left = own; r.left != ""; {
		r.fail(len(t) == 127, api.ErrFull)
		n := r.node()
		r.fail(n.Kind == api.InnerNode && len(t)%2 == 0, api.ErrKind)
		r.fail(n.Kind == api.LeafNode && len(t)%2 == 1, api.ErrKind)
		t = append(t, n)
	}
	r.fail(t[len(t)-1].Kind == api.Blank, api.ErrTrail)
	if r.e != api.OK {
		return nil, r.e
	}
	for !slices.Contains(widths, len(t)) {
		t = append(t, blank)
	}
	if !wantNamed(t) {
		return nil, api.ErrUnmerged
	}
	return t, api.OK
}

// build is a tree of so many nodes: of which full tells it, they are not blank, and unmerged tells what the inner ones name.
func build(w int, full func(x int) bool, unmerged func(x int) []int) []api.Node {
	t := make([]api.Node, w)
	for x := range t {
		switch {
		case !full(x):
		case x%2 == 0:
			t[x] = leafOf(x)
		default:
			t[x] = innerOf(x, unmerged(x)...)
		}
	}
	return t
}

// all, evens, odds and never tell places.
func all(int) bool     { return true }
func evens(x int) bool { return x%2 == 0 }
func odds(x int) bool  { return x%2 != 0 }
func never(int) bool   { return false }

// some are ways to tell which nodes of a width are not blank: none, all, leaves or inner nodes alone, one, all but one, those up to one, those from one on, and mixtures.
func some(w int) []func(x int) bool {
	out := []func(x int) bool{never, all, evens, odds}
	// Of a great tree not each node is tried, but some of each level.
	step := max(1, w/21)
	for at := 0; at < w; at += step {
		out = append(out,
			func(x int) bool { return x == at },
			func(x int) bool { return x != at },
			func(x int) bool { return x <= at },
			func(x int) bool { return x >= at },
			func(x int) bool { return x == at || odds(x) },
			func(x int) bool { return x == at || evens(x) },
			func(x int) bool { return x*x%(at+5) < 2 },
			func(x int) bool { return evens(x) && x != at || odds(x) && x%(at%7+3) == 1 },
		)
	}
	return out
}

// nobody and everybody name unmerged leaves.
func nobody(int) []int { return nil }
func everybody(int) []int {
	var out []int
	for i := range api.MaxLeaves {
		out = append(out, i)
	}
	return out
}

// naming are ways to name unmerged leaves in a tree of which full tells what is there: none; of those below that are there all, some, or some by low nodes alone, or by high ones; of those below all; some, and all, of any.
func naming(w int, full func(x int) bool) []func(x int) []int {
	numbers := func(is func(x, i int) bool) func(x int) []int {
		return func(x int) []int {
			var out []int
			for i := range api.MaxLeaves {
				if is(x, i) {
					out = append(out, i)
				}
			}
			return out
		}
	}
	below := func(x, i int) bool { return 2*i < w && slices.Contains(above(i, w), x) }
	there := func(x, i int) bool { return below(x, i) && full(2*i) }
	return []func(x int) []int{
		nobody,
		numbers(there),
		numbers(func(x, i int) bool { return there(x, i) && i*i%7 < 3 }),
		numbers(func(x, i int) bool { return there(x, i) && x%4 == 1 }),
		numbers(func(x, i int) bool { return there(x, i) && x%4 != 1 }),
		numbers(below),
		numbers(func(x, i int) bool { return (i*x+x)%7 == 3 }),
		everybody,
	}
}

// with is a row of its own memory, with a node at a place.
func with(t []api.Node, x int, n api.Node) []api.Node {
	out := slices.Clone(t)
	out[x] = n
	return out
}

// wrongs are nodes with which something is wrong.
func wrongs() []api.Node {
	key, over := []byte("k"), make([]byte, 201)
	out := []api.Node{{Kind: 3}, {Kind: -1}, {Kind: math.MinInt}, {Kind: 257, Leaf: leafOf(1).Leaf}, {Kind: 1<<32 + 2, Inner: innerOf(1).Inner}, {Leaf: leafOf(1).Leaf}, {Inner: innerOf(1).Inner}, {Kind: 1}, {Kind: 2}, {Kind: 1, Inner: innerOf(1).Inner}, {Kind: 2, Leaf: leafOf(1).Leaf}, {Kind: 1, Leaf: leafOf(1).Leaf, Inner: innerOf(1).Inner}}
	for _, l := range []api.Leaf{{Source: 1}, {Enc: over, Source: 1}, {Enc: key, Cred: over, Source: 1}, {Enc: key}, {Enc: key, Source: 4}, {Enc: key, Source: 2, Parent: key}} {
		out = append(out, api.Node{Kind: 1, Leaf: l})
	}
	for _, n := range []api.Inner{{Hash: key}, {Enc: over}, {Enc: key, Hash: over}, {Enc: key, Unmerged: make([]int, 65)}, {Enc: key, Unmerged: []int{64}}, {Enc: key, Unmerged: []int{-1}}, {Enc: key, Unmerged: []int{1, 0}}, {Enc: key, Unmerged: []int{1, 1}}} {
		out = append(out, api.Node{Kind: 2, Inner: n})
	}
	return out
}

// noTrees are rows that are no tree, by each of the things that a tree must be; in most of them an inner node names what it may not.
func noTrees() [][]api.Node {
	var out [][]api.Node
	for n := range 131 {
		if n > 0 && !slices.Contains(widths, n) {
			out = append(out, make([]api.Node, n), build(n, all, everybody), build(n, evens, nobody))
		}
	}
	for _, n := range []int{255, 511, 1023, 1 << 16} {
		out = append(out, make([]api.Node, n), build(n, all, everybody))
	}
	for _, w := range widths {
		for _, x := range []int{0, w / 2, w - 1} {
			for _, n := range append(wrongs(), []api.Node{innerOf(x), leafOf(x)}[x%2]) {
				out = append(out, with(build(w, all, everybody), x, n), with(build(w, evens, nobody), x, n), with(make([]api.Node, w), x, n))
			}
		}
	}
	return out
}

// tell tells a row by its nodes, without filling pages.
func tell(t []api.Node) string {
	var b strings.Builder
	for x, n := range t {
		if x == 40 {
			b.WriteString(" ..")
			break
		}
		switch n.Kind {
		case api.Blank:
			b.WriteString(" -")
		case api.LeafNode:
			b.WriteString(" l" + strconv.Itoa(n.Leaf.Source))
		case api.InnerNode:
			b.WriteString(" i")
			for _, u := range n.Inner.Unmerged {
				b.WriteString("," + strconv.Itoa(u))
			}
		default:
			b.WriteString(" kind " + strconv.Itoa(n.Kind))
		}
	}
	return "[" + b.String() + " ] of " + strconv.Itoa(len(t))
}

// begin tells octets, without filling pages.
func begin(b string) string {
	if len(b) > 60 {
		return strconv.Quote(b[:60]) + ".. of " + strconv.Itoa(len(b))
	}
	return strconv.Quote(b)
}

// copied are nodes that share no memory with those that are given.
func copied(t []api.Node) []api.Node {
	out := slices.Clone(t)
	for x, n := range out {
		out[x].Leaf.Enc, out[x].Leaf.Cred, out[x].Leaf.Parent = bytes.Clone(n.Leaf.Enc), bytes.Clone(n.Leaf.Cred), bytes.Clone(n.Leaf.Parent)
		out[x].Inner.Enc, out[x].Inner.Hash, out[x].Inner.Unmerged = bytes.Clone(n.Inner.Enc), bytes.Clone(n.Inner.Hash), slices.Clone(n.Inner.Unmerged)
	}
	return out
}

// same is whether two rows have the same nodes.
func same(a, b []api.Node) bool { return slices.EqualFunc(a, b, equal) }

// equal is whether two nodes have the same fields.
func equal(a, b api.Node) bool {
	l, m, i, j := a.Leaf, b.Leaf, a.Inner, b.Inner
	return a.Kind == b.Kind && l.Source == m.Source && bytes.Equal(l.Enc, m.Enc) && bytes.Equal(l.Cred, m.Cred) && bytes.Equal(l.Parent, m.Parent) && bytes.Equal(i.Enc, j.Enc) && bytes.Equal(i.Hash, j.Hash) && slices.Equal(i.Unmerged, j.Unmerged)
}

// roomy is a row with nodes behind it in its memory, also octets and numbers behind what its nodes say, and what tells whether all of it is as it was.
func roomy(t []api.Node) ([]api.Node, func() bool) {
	whole := slices.Concat(copied(t), slices.Repeat([]api.Node{beyond}, len(t)+2))
	var fields [][]byte
	var numbers [][]int
	octets := func(v []byte) []byte {
		fields = append(fields, slices.Concat(v, []byte("beyond")))
		return fields[len(fields)-1][:len(v)]
	}
	for x := range whole {
		n := &whole[x]
		n.Leaf.Enc, n.Leaf.Cred, n.Leaf.Parent = octets(n.Leaf.Enc), octets(n.Leaf.Cred), octets(n.Leaf.Parent)
		n.Inner.Enc, n.Inner.Hash = octets(n.Inner.Enc), octets(n.Inner.Hash)
		numbers = append(numbers, slices.Concat(n.Inner.Unmerged, []int{-77, -77}))
		n.Inner.Unmerged = numbers[x][:len(n.Inner.Unmerged)]
	}
	was := copied(whole)
	return whole[:len(t)], func() bool {
		for _, v := range fields {
			if !strings.HasSuffix(string(v), "beyond") {
				return false
			}
		}
		for _, l := range numbers {
			if !slices.Equal(l[len(l)-2:], []int{-77, -77}) {
				return false
			}
		}
		return same(whole, was)
	}
}

// checkTree tests what is told of a tree, that what is put of it is got if it may be, and that it stays as it was.
func checkTree(t *testing.T, given []api.Node) {
	t.Helper()
	if !shape.Sane(given) {
		t.Fatalf("%s is no tree", tell(given))
	}
	row, untouched := roomy(given)
	named, put := Named(row), string(Put(row))
	if want := wantNamed(given); named != want {
		t.Errorf("Named(%s) = %t", tell(given), named)
	}
	if want := wantPut(given); put != want {
		t.Errorf("Put(%s) = %s, want %s", tell(given), begin(put), begin(want))
	}
	if !untouched() {
		t.Errorf("%s became %s", tell(given), tell(row))
	}
	checkGet(t, put)
	got, e := Get([]byte(put))
	switch last := shape.Last(given); {
	case last < 0:
		if e != api.ErrEmpty {
			t.Errorf("%s is put, and got as %s, %d", tell(given), tell(got), e)
		}
	case !named:
		if e != api.ErrUnmerged {
			t.Errorf("%s is put, and got as %s, %d", tell(given), tell(got), e)
		}
	case last >= len(given)/2:
		// No smaller width has all that is not blank, so all of it is got: so it is with what is trimmed.
		if e != api.OK || !same(got, given) {
			t.Errorf("%s is put, and got as %s, %d", tell(given), tell(got), e)
		}
	default:
		if e != api.OK || len(got) >= len(given) || !same(got, given[:len(got)]) {
			t.Errorf("%s is put, and got as %s, %d", tell(given), tell(got), e)
		}
	}
	if len(given) > 0 && named && len(shape.Trim(given)) == len(given) && !same(got, given) {
		t.Errorf("%s is named, and trimmed, but got as %s, %d", tell(given), tell(got), e)
	}
}

// checkGet tests what octets are got as, that they stay as they were, and that what is got is put as it was.
func checkGet(t *testing.T, given string) ([]api.Node, api.Errno) {
	t.Helper()
	whole := []byte(given + "beyond")
	b := whole[:len(given)]
	got, e := Get(b)
	want, err := wantGet(given)
	if e != err || !same(got, want) {
		t.Errorf("Get(%s) = %s, %d, want %s, %d", begin(given), tell(got), e, tell(want), err)
	}
	switch {
	case e != api.OK:
		if len(got) != 0 {
			t.Errorf("Get(%s) = %s, with %d", begin(given), tell(got), e)
		}
	case !shape.Sane(got) || !Named(got):
		t.Errorf("Get(%s) = %s, which may not be", begin(given), tell(got))
	case string(Put(got)) != given:
		t.Errorf("%s is got, and put as %s", begin(given), begin(string(Put(got))))
	}
	if string(whole) != given+"beyond" {
		t.Errorf("%s became %s", begin(given), begin(string(whole)))
	}
	return got, e
}

// P15.1: what unmerged leaves may be, and what they may not, written out.
func TestNamed(t *testing.T) {
	// Which nodes of a width are there, what some of them name, and whether that may be.
	for _, c := range []struct {
		what  string
		w     int
		there []int
		names map[int][]int
		is    bool
	}{
		{"nothing", 1, nil, nil, true},
		{"a leaf", 1, []int{0}, nil, true},
		{"nobody is named", 3, []int{0, 1, 2}, nil, true},
		{"the left one", 3, []int{0, 1, 2}, map[int][]int{1: {0}}, true},
		{"the right one", 3, []int{0, 1, 2}, map[int][]int{1: {1}}, true},
		{"both", 3, []int{0, 1, 2}, map[int][]int{1: {0, 1}}, true},
		{"both, of whom the left one is blank", 3, []int{1, 2}, map[int][]int{1: {0, 1}}, false},
		{"both, of whom the right one is blank", 3, []int{0, 1}, map[int][]int{1: {0, 1}}, false},
		{"a blank one", 3, []int{0, 1}, map[int][]int{1: {1}}, false},
		{"one that is no leaf", 3, []int{0, 1, 2}, map[int][]int{1: {2}}, false},
		{"the last number of all", 3, []int{0, 1, 2}, map[int][]int{1: {63}}, false},
		{"one that is there, and one that is no leaf", 3, []int{0, 1, 2}, map[int][]int{1: {0, 2}}, false},
		{"by the left one, what is below", 7, []int{0, 1, 2, 4, 5, 6}, map[int][]int{1: {0, 1}}, true},
		{"by the right one, what is below", 7, []int{0, 1, 2, 4, 5, 6}, map[int][]int{5: {2, 3}}, true},
		{"by the left one, what is on the right", 7, []int{0, 1, 2, 4, 5, 6}, map[int][]int{1: {2}}, false},
		{"by the right one, what is on the left", 7, []int{0, 1, 2, 4, 5, 6}, map[int][]int{5: {1}}, false},
		{"by the left one, what is on the right, below a blank one", 7, []int{0, 1, 2, 4, 6}, map[int][]int{1: {2}}, false},
		{"by the right one, what is on the left, below a blank one", 7, []int{0, 2, 4, 5, 6}, map[int][]int{5: {1}}, false},
		{"by the left one, what is on the right, and named by all above it", 7, []int{0, 1, 2, 3, 4, 5, 6}, map[int][]int{1: {2}, 3: {2}, 5: {2}}, false},
		{"by the root, with blank ones between", 7, []int{0, 2, 3, 4, 6}, map[int][]int{3: {0, 1, 2, 3}}, true},
		{"by the root, and by who is between", 7, []int{0, 1, 2, 3, 4, 6}, map[int][]int{1: {1}, 3: {1, 2}}, true},
		{"by the root, and more by who is between", 7, []int{0, 1, 2, 3, 4, 6}, map[int][]int{1: {0, 1}, 3: {1}}, true},
		{"by the root, but not by who is between", 7, []int{0, 1, 2, 3, 4, 6}, map[int][]int{3: {1}}, false},
		{"by the root, and another one by who is between", 7, []int{0, 1, 2, 3, 4, 6}, map[int][]int{1: {0}, 3: {1}}, false},
		{"by the root two, and one of them by who is between", 7, []int{0, 1, 2, 3, 4, 6}, map[int][]int{1: {0}, 3: {0, 1}}, false},
		{"by the root two, of whom each has another one between", 7, []int{0, 1, 2, 3, 4, 5, 6}, map[int][]int{1: {0}, 3: {0, 3}, 5: {3}}, true},
		{"by the root two, of whom the second one is not named between", 7, []int{0, 1, 2, 3, 4, 5, 6}, map[int][]int{1: {0}, 3: {0, 3}}, false},
		{"by who is below the root alone", 7, []int{0, 1, 2, 3, 4, 5, 6}, map[int][]int{1: {0}, 5: {3}}, true},
		{"a blank one, by all", 7, []int{0, 1, 3, 4}, map[int][]int{1: {1}, 3: {1}}, false},
		{"by all three", 15, []int{3, 7, 9, 10, 11}, map[int][]int{7: {5}, 9: {5}, 11: {5}}, true},
		{"by the highest and the lowest, one between being blank", 15, []int{7, 9, 10}, map[int][]int{7: {5}, 9: {5}}, true},
		{"by the highest and the lowest, not by the one between", 15, []int{7, 9, 10, 11}, map[int][]int{7: {5}, 9: {5}}, false},
		{"by the upper two, not by the lowest", 15, []int{7, 9, 10, 11}, map[int][]int{7: {5}, 11: {5}}, false},
		{"by the lower two, not by the root", 15, []int{7, 9, 10, 11}, map[int][]int{9: {5}, 11: {5}}, true},
		{"by the lowest alone", 15, []int{7, 9, 10, 11}, map[int][]int{9: {5}}, true},
		{"not by one beside the way", 15, []int{3, 7, 10, 13}, map[int][]int{7: {5}}, true},
		{"the last leaf of all", 127, []int{63, 95, 125, 126}, map[int][]int{63: {63}, 95: {63}, 125: {63}}, true},
		{"the last leaf of all, not by one between", 127, []int{63, 95, 125, 126}, map[int][]int{63: {63}, 125: {63}}, false},
		{"the first leaf of the right half, by the left one", 127, []int{31, 63, 64}, map[int][]int{31: {32}}, false},
	} {
		row := build(c.w, func(x int) bool { return slices.Contains(c.there, x) }, func(x int) []int { return c.names[x] })
		if Named(row) != c.is {
			t.Errorf("%s: Named(%s) = %t", c.what, tell(row), !c.is)
		}
		checkTree(t, row)
	}
}

// P15.1, P15.2, P15.3: trees of each width, with all, some and no nodes, and all that they may name.
func TestTrees(t *testing.T) {
	checkTree(t, nil)
	checkTree(t, []api.Node{})
	names := [2]int{}
	for _, w := range widths {
		for k, full := range some(w) {
			for n, unmerged := range naming(w, full) {
				// Of a great tree each way to name is tried with some ways to be full, and each way to be full with one.
				if w > 15 && k > 3 && k%8 != n {
					continue
				}
				row := build(w, full, unmerged)
				checkTree(t, row)
				if Named(row) {
					names[1]++
				} else {
					names[0]++
				}
			}
		}
	}
	if names[0] < 100 || names[1] < 100 {
		t.Errorf("%d are not named, %d are", names[0], names[1])
	}
}

// P15.1, P15.2, P15.3: all trees of up to four leaves, whose inner nodes are blank or name whomever.
func TestSmallTrees(t *testing.T) {
	for _, w := range []int{1, 3, 7} {
		leaves, inners := (w+1)/2, w/2
		for there := range 1 << leaves {
			for names := 0; names < power(17, inners); names++ {
				row := make([]api.Node, w)
				left := names
				for x := range row {
					switch {
					case evens(x):
						if there>>(x/2)&1 == 1 {
							row[x] = leafOf(x)
						}
						continue
					case left%17 > 0:
						row[x] = innerOf(x, digits(left%17-1)...)
					}
					left /= 17
				}
				if Named(row) != wantNamed(row) {
					t.Fatalf("Named(%s) = %t", tell(row), Named(row))
				}
				// What is told of octets takes longer than whether all is named.
				if names%7 == there%7 || w < 7 {
					checkTree(t, row)
				}
			}
		}
	}
}

// power is a number so many times with itself.
func power(n, k int) int {
	out := 1
	for range k {
		out *= n
	}
	return out
}

// digits are the places of a number's ones.
func digits(n int) []int {
	var out []int
	for i := range 6 {
		if n>>i&1 == 1 {
			out = append(out, i)
		}
	}
	return out
}

// P15.1: what is put, octet by octet.
func TestPut(t *testing.T) {
	full := strings.Repeat("\x07", 200)
	one := api.Node{Kind: 1, Leaf: api.Leaf{Enc: []byte{7}, Source: 1}}
	two := api.Node{Kind: 2, Inner: api.Inner{Enc: []byte{8}, Hash: []byte{9}, Unmerged: []int{1}}}
	made := api.Node{Kind: 1, Leaf: api.Leaf{Enc: []byte("k"), Cred: []byte("who"), Source: 3, Parent: []byte("up")}}
	most := api.Node{Kind: 1, Leaf: api.Leaf{Enc: []byte(full), Cred: []byte(full), Source: 3, Parent: []byte(full)}}
	for _, c := range []struct {
		row  []api.Node
		want string
	}{
		{nil, "\x00"}, {[]api.Node{}, "\x00"}, {make([]api.Node, 1), "\x00"}, {make([]api.Node, 127), "\x00"},
		{[]api.Node{one}, "\x06\x01\x01\x01\x07\x00\x01"},
		{[]api.Node{one, blank, blank}, "\x06\x01\x01\x01\x07\x00\x01"},
		{append([]api.Node{one}, make([]api.Node, 126)...), "\x06\x01\x01\x01\x07\x00\x01"},
		{[]api.Node{one, two, blank}, "\x11\x01\x01\x01\x07\x00\x01\x01\x02\x01\x08\x01\x09\x04\x00\x00\x00\x01"},
		{[]api.Node{one, two, made}, "\x1d\x01\x01\x01\x07\x00\x01\x01\x02\x01\x08\x01\x09\x04\x00\x00\x00\x01\x01\x01\x01k\x03who\x03\x02up"},
		{[]api.Node{blank, blank, one}, "\x08\x00\x00\x01\x01\x01\x07\x00\x01"},
		{[]api.Node{blank, two, blank}, "\x0c\x00\x01\x02\x01\x08\x01\x09\x04\x00\x00\x00\x01"},
		{[]api.Node{one, blank, blank, blank, one, blank, blank}, "\x0f\x01\x01\x01\x07\x00\x01\x00\x00\x00\x01\x01\x01\x07\x00\x01"},
		{with(make([]api.Node, 127), 126, one), "\x40\x84" + strings.Repeat("\x00", 126) + "\x01\x01\x01\x07\x00\x01"},
		{[]api.Node{most, blank, blank}, "\x42\x61\x01\x01\x40\xc8" + full + "\x40\xc8" + full + "\x03\x40\xc8" + full},
	} {
		if got := Put(c.row); string(got) != c.want {
			t.Errorf("Put(%s) = %s, want %s", tell(c.row), begin(string(got)), begin(c.want))
		}
		checkTree(t, c.row)
	}
}

// P15.1: however many blank nodes stand behind the last one that is not, they are not put, and that one is, be it a leaf or not.
func TestPutBehind(t *testing.T) {
	for _, w := range widths {
		for last := range w {
			for _, full := range []func(x int) bool{func(x int) bool { return x <= last }, func(x int) bool { return x == last }} {
				row := build(w, full, nobody)
				if got, want := string(Put(row)), vector(laid(row[:last+1]...)); got != want {
					t.Errorf("Put(%s) = %s, want %s", tell(row), begin(got), begin(want))
				}
			}
		}
	}
}

// P15.2: nodes up to each number are got, with blank ones behind up to the next width.
func TestGetWidens(t *testing.T) {
	for n := 1; n <= 127; n++ {
		want := 1
		for want < n {
			want = 2*want + 1
		}
		for k, full := range []func(x int) bool{all, func(x int) bool { return x == n-1 }, func(x int) bool { return odds(x) || x == n-1 }} {
			nodes := build(n, full, nobody)
			got, e := checkGet(t, vector(laid(nodes...)))
			if e != api.OK || !same(got, append(nodes, make([]api.Node, want-n)...)) {
				t.Errorf("%d: %d nodes are got as %s, %d", k, n, tell(got), e)
			}
		}
	}
}

// The octets of a leaf, and of two inner nodes, of which the second one names the leaf 0.
const (
	goodLeaf  = "\x01\x01\x01l\x00\x01"
	goodInner = "\x01\x02\x01i\x00\x00"
	namesZero = "\x01\x02\x01i\x00\x04\x00\x00\x00\x00"
)

// badNodes are octets that begin with no node, whatever comes ahead of them, and what is wrong.
func badNodes() map[string]api.Errno {
	over := vector(strings.Repeat("o", 201))
	return map[string]api.Errno{
		"\x02": api.ErrForm, "\xff": api.ErrForm,
		"\x01": api.ErrShort, "\x01\x01": api.ErrShort, "\x01\x01\x01": api.ErrShort, "\x01\x01\x01l\x00": api.ErrShort, "\x01\x01\x01l\x00\x03": api.ErrShort, "\x01\x02\x01i\x00": api.ErrShort, "\x01\x02\x01i\x00\x04\x00\x00\x00": api.ErrShort,
		"\x01\x00": api.ErrKind, "\x01\x03": api.ErrKind, "\x01\xff": api.ErrKind, "\x01\x01\x01l\x00\x00": api.ErrKind, "\x01\x01\x01l\x00\x04": api.ErrKind,
		"\x01\x01\xc0": api.ErrForm, "\x01\x01\x40\x01l\x00\x01": api.ErrForm, "\x01\x02\x01i\x00\x03\x00\x00\x00": api.ErrForm, "\x01\x02\x01i\x80\x00\x00\x01h\x00": api.ErrForm,
		"\x01\x01\xa0\x00\x00\x00": api.ErrLarge, "\x01\x01" + over + "\x00\x01": api.ErrLarge, "\x01\x01\x01l" + over + "\x01": api.ErrLarge, "\x01\x01\x01l\x00\x03" + over: api.ErrLarge, "\x01\x02" + over + "\x00\x00": api.ErrLarge, "\x01\x02\x01i" + over + "\x00": api.ErrLarge, "\x01\x02\x01i\x00" + vector(strings.Repeat("\x00\x00\x00\x01", 65)): api.ErrLarge,
		"\x01\x01\x00\x00\x01": api.ErrEmpty, "\x01\x02\x00\x00\x00": api.ErrEmpty,
		"\x01\x02\x01i\x00\x04\x00\x00\x00\x40": api.ErrRange, "\x01\x02\x01i\x00\x04\xff\xff\xff\xff": api.ErrRange,
		"\x01\x02\x01i\x00\x08\x00\x00\x00\x01\x00\x00\x00\x01": api.ErrUnmerged, "\x01\x02\x01i\x00\x08\x00\x00\x00\x02\x00\x00\x00\x01": api.ErrUnmerged,
	}
}

// P15.2: how the octets are held: each error of wire.GetBytes, something left over, no octet; each is told ahead of whatever the octets are.
func TestGetHeld(t *testing.T) {
	great := strings.Repeat("\x00", 1<<20)
	for _, c := range []struct {
		b string
		e api.Errno
	}{
		{"", api.ErrShort}, {"\x01", api.ErrShort}, {"\x02\x00", api.ErrShort}, {"\x02\x03", api.ErrShort}, {"\x40", api.ErrShort}, {"\x80\x00\x00", api.ErrShort}, {"\x07" + goodLeaf, api.ErrShort}, {"\x07" + goodInner, api.ErrShort},
		{"\xc0", api.ErrForm}, {"\xff\xff\xff\xff", api.ErrForm}, {"\x40\x06" + goodLeaf, api.ErrForm}, {"\x40\x00", api.ErrForm}, {"\x80\x00\x00\x06" + goodLeaf, api.ErrForm}, {"\x80\x00\x3f\xff", api.ErrForm},
		{"\x80\x10\x00\x01", api.ErrLarge}, {"\xbf\xff\xff\xff", api.ErrLarge}, {"\x80\x10\x00\x01" + great + "\x00", api.ErrLarge}, {"\x80\x10\x00\x00", api.ErrShort}, {"\x80\x10\x00\x00" + great[1:], api.ErrShort},
		{"\x00\x00", api.ErrForm}, {"\x00" + goodLeaf, api.ErrForm}, {vector(goodLeaf) + "\x00", api.ErrForm}, {vector(goodInner) + "\x00", api.ErrForm}, {"\x01\x02\x00", api.ErrForm}, {vector("\x00") + "\x00", api.ErrForm}, {vector(strings.Repeat("\x00", 128)) + "\x00", api.ErrForm}, {"\x01\x00\x01\x00", api.ErrForm}, {vector(goodLeaf) + vector(goodLeaf), api.ErrForm},
		{"\x00", api.ErrEmpty},
		{vector(great), api.ErrFull}, {vector(great) + "\x00", api.ErrForm},
		{vector("\x00"), api.ErrTrail}, {vector(goodLeaf), api.OK}, {vector("\x00" + goodInner), api.OK},
	} {
		if _, e := checkGet(t, c.b); e != c.e {
			t.Errorf("Get(%s): %d, want %d", begin(c.b), e, c.e)
		}
	}
	if _, e := Get(nil); e != api.ErrShort {
		t.Errorf("Get(nil): %d", e)
	}
}

// P15.2: whatever is wrong with a node, at each of some places, is told; ahead of a blank one last, and of unmerged leaves.
func TestGetNodes(t *testing.T) {
	for bad, e := range badNodes() {
		for _, before := range []string{"", "\x00", goodLeaf, goodLeaf + goodInner, goodLeaf + namesZero + goodLeaf + "\x00", "\x00" + namesZero, "\x00" + strings.Repeat(goodInner+"\x00", 62), strings.Repeat(goodLeaf+"\x00", 63)} {
			if _, err := checkGet(t, vector(before+bad)); err != e {
				t.Errorf("Get of %s behind %s: %d, want %d", begin(bad), begin(before), err, e)
			}
		}
	}
}

// P15.2: a leaf at each odd place, an inner node at each even one, with whatever else wrong behind; what is ahead is told first.
func TestGetPlaces(t *testing.T) {
	for x := range 127 {
		right, other := goodLeaf, goodInner
		if odds(x) {
			right, other = other, right
		}
		for _, before := range []string{strings.Repeat("\x00", x), laid(build(x, all, nobody)...)} {
			if got, e := checkGet(t, vector(before+right)); e != api.OK {
				t.Errorf("a node at %d is got as %s, %d", x, tell(got), e)
			}
			for _, behind := range []string{"", "\x00", goodLeaf, goodInner, namesZero, "\x02", "\x01", strings.Repeat("\x00", 127-x)} {
				if got, e := checkGet(t, vector(before+other+behind)); e != api.ErrKind {
					t.Errorf("another node at %d, and %s, are got as %s, %d", x, begin(behind), tell(got), e)
				}
			}
		}
		if got, e := checkGet(t, vector(strings.Repeat("\x00", x)+"\x02"+other)); e != api.ErrForm {
			t.Errorf("another node behind what is none at %d is got as %s, %d", x, tell(got), e)
		}
	}
}

// P15.2: 127 nodes may be, and not one octet behind them, whatever it is.
func TestGetFull(t *testing.T) {
	for _, full := range []func(x int) bool{all, never, evens, odds} {
		most := laid(build(127, full, nobody)...)
		want := api.OK
		if !full(126) {
			want = api.ErrTrail
		}
		if _, e := checkGet(t, vector(most)); e != want {
			t.Errorf("127 nodes: %d, want %d", e, want)
		}
		for _, behind := range []string{"\x00", "\x01", "\x02", "\xff", goodLeaf, goodInner, namesZero, strings.Repeat("\x00", 1000), strings.Repeat(goodLeaf+goodInner, 64)} {
			if _, e := checkGet(t, vector(most+behind)); e != api.ErrFull {
				t.Errorf("%s behind 127 nodes: %d", begin(behind), e)
			}
		}
		fewer := laid(build(126, full, nobody)...)
		for behind, want := range map[string]api.Errno{"\x02": api.ErrForm, "\x01\x01": api.ErrShort, goodInner: api.ErrKind, goodLeaf: api.OK, "\x00": api.ErrTrail} {
			if _, e := checkGet(t, vector(fewer+behind)); e != want {
				t.Errorf("%s behind 126 nodes: %d, want %d", begin(behind), e, want)
			}
		}
	}
}

// P15.2: a blank one last is told ahead of unmerged leaves that may not be, and these behind all else.
func TestGetLast(t *testing.T) {
	for _, c := range []struct {
		own string
		e   api.Errno
	}{
		{goodLeaf + "\x00", api.ErrTrail}, {goodLeaf + "\x00\x00", api.ErrTrail}, {goodLeaf + goodInner + "\x00", api.ErrTrail}, {"\x00\x00\x00", api.ErrTrail}, {goodLeaf + goodInner + goodLeaf + "\x00", api.ErrTrail}, {goodLeaf + goodInner + goodLeaf + strings.Repeat("\x00", 124), api.ErrTrail},
		{"\x00" + namesZero + "\x00", api.ErrTrail}, {"\x00" + namesZero + goodLeaf + "\x00", api.ErrTrail}, {"\x00" + namesZero, api.ErrUnmerged}, {"\x00" + namesZero + goodLeaf, api.ErrUnmerged}, {goodLeaf + namesZero, api.OK}, {goodLeaf + namesZero + goodLeaf, api.OK},
		{"\x00" + namesZero + goodInner, api.ErrKind}, {"\x00" + namesZero + "\x02", api.ErrForm}, {"\x00" + namesZero + strings.Repeat("\x00", 126), api.ErrFull},
		{goodLeaf + "\x00\x00" + namesZero, api.OK}, {goodLeaf + namesZero + "\x00" + namesZero, api.OK}, {goodLeaf + goodInner + "\x00" + namesZero, api.ErrUnmerged}, {goodLeaf + "\x00\x00\x00\x00" + namesZero, api.ErrUnmerged}, {"\x00\x00\x00" + namesZero + goodLeaf, api.ErrUnmerged},
		// The leaves behind the last node are there once the row is as wide as a tree, but blank.
		{goodLeaf + "\x01\x02\x01i\x00\x04\x00\x00\x00\x01", api.ErrUnmerged}, {goodLeaf + "\x01\x02\x01i\x00\x04\x00\x00\x00\x01" + goodLeaf, api.OK}, {goodLeaf + "\x00\x00\x01\x02\x01i\x00\x04\x00\x00\x00\x03" + goodLeaf, api.ErrUnmerged},
	} {
		if got, e := checkGet(t, vector(c.own)); e != c.e {
			t.Errorf("Get of %s = %s, %d, want %d", begin(c.own), tell(got), e, c.e)
		}
	}
}

// P15.2, P15.3: of the octets of some trees each cut, each one with another octet in a place, and each one without an octet is told as the chapter says.
func TestGetChanged(t *testing.T) {
	seen := map[api.Errno]int{}
	for _, row := range [][]api.Node{
		{leafOf(1)}, {leafOf(4), innerOf(1, 0, 1), leafOf(2)}, {blank, innerOf(1, 1), leafOf(2)},
		build(7, all, naming(7, all)[1]), build(7, func(x int) bool { return x != 5 && x != 2 }, naming(7, func(x int) bool { return x != 2 })[2]), build(7, odds, nobody),
	} {
		own := laid(row...)
		for at := range len(own) {
			_, e := checkGet(t, vector(own[:at]))
			_, err := checkGet(t, vector(own[:at]+own[at+1:]))
			seen[e], seen[err] = seen[e]+1, seen[err]+1
			for c := range 256 {
				if c > 8 && c%16 != 0 && c < 250 && len(own) > 60 {
					continue
				}
				_, e := checkGet(t, vector(own[:at]+string([]byte{byte(c)})+own[at+1:]))
				seen[e]++
			}
		}
		put := vector(own)
		for at := range len(put) {
			checkGet(t, put[:at])
			checkGet(t, put[at:])
		}
	}
	for _, e := range []api.Errno{api.OK, api.ErrShort, api.ErrForm, api.ErrRange, api.ErrEmpty, api.ErrTrail, api.ErrKind, api.ErrUnmerged} {
		if seen[e] == 0 {
			t.Errorf("nothing is told as %d", e)
		}
	}
}

// P15.2, P15.3: all octets of up to six, of those that may begin something.
func TestShortOctets(t *testing.T) {
	some := []byte{0, 1, 2, 3, 4, 6, 64, 192}
	var try func(b []byte)
	try = func(b []byte) {
		checkGet(t, string(b))
		checkGet(t, vector(string(b)))
		if len(b) < 5 {
			for _, c := range some {
				try(append(b[:len(b):len(b)], c))
			}
		}
	}
	try(nil)
}

// R5, P1: what is no tree counts as the empty one.
func TestNoTrees(t *testing.T) {
	for _, given := range noTrees() {
		row, untouched := roomy(given)
		if shape.Sane(row) || !Named(row) || string(Put(row)) != "\x00" {
			t.Errorf("%s: Sane %t, Named %t, Put %s", tell(given), shape.Sane(row), Named(row), begin(string(Put(row))))
		}
		if !untouched() {
			t.Errorf("%s became %s", tell(given), tell(row))
		}
	}
}

// The chapter's example: the empty tree is put as 0, and is not got.
func TestExample(t *testing.T) {
	b := Put(nil)
	if !bytes.Equal(b, []byte{0}) {
		t.Errorf("Put(nil) = %v", b)
	}
	if got, e := Get(b); e != api.ErrEmpty || len(got) != 0 {
		t.Errorf("Get(%v) = %s, %d", b, tell(got), e)
	}
}

// grown is what becomes of a tree by one thing that a number tells: a leaf more, a leaf less, one that says something else, one that makes its way up anew.
func grown(row []api.Node, k int) []api.Node {
	said := leafOf(k).Leaf
	said.Parent = nil
	i := k / 5 % max(shape.Leaves(row), 1)
	var out []api.Node
	var e api.Errno
	switch k % 5 {
	case 0, 1:
		said.Source = 1
		out, _, e = edit.Add(row, said)
	case 2:
		out, e = edit.Remove(row, i)
	case 3:
		said.Source = 2
		out, e = edit.Change(row, i, said)
	case 4:
		keys := slices.Repeat([][]byte{{byte(k), 'k'}}, len(resolve.Filter(row, i)))
		said.Source = 3
		_, said.Parent, _ = chain.Plan(row, i, keys)
		out, e = edit.Commit(row, i, said, keys)
	}
	if e != api.OK {
		return row
	}
	return out
}

// checkHistory tests a tree that came about from the empty one: it is named, and trimmed, so what is put of it is got, and is the same tree for whatever is done then.
func checkHistory(t *testing.T, row []api.Node) {
	t.Helper()
	checkTree(t, row)
	if !Named(row) || len(shape.Trim(row)) != len(row) {
		t.Fatalf("%s: Named %t", tell(row), Named(row))
	}
	got, e := Get(Put(row))
	if len(row) == 0 {
		if e != api.ErrEmpty {
			t.Errorf("the empty tree is got as %s, %d", tell(got), e)
		}
		return
	}
	if e != api.OK || !same(got, row) || chain.Verify(got) != chain.Verify(row) {
		t.Errorf("%s is got as %s, %d", tell(row), tell(got), e)
	}
}

// P15.3, W2: whatever is done from the empty tree on, what is put is got.
func TestHistories(t *testing.T) {
	for seed := range 12 {
		var row []api.Node
		wide := 0
		for step := range 150 {
			k := (step*step*7 + step*(seed+3) + step/3*seed) % 1000
			if step%(seed+2) != 0 && seed%2 == 0 {
				// Mostly leaves more, so that the tree becomes a wide one.
				k -= k % 5
			}
			row = grown(row, k)
			wide = max(wide, len(row))
			checkHistory(t, row)
			if step%40 == 39 && len(row) > 0 {
				// What is got goes on as the tree itself would.
				got, _ := Get(Put(row))
				for k := range 10 {
					if a, b := grown(row, 7*k), grown(got, 7*k); !same(a, b) {
						t.Errorf("%s goes on as %s, %s", tell(row), tell(a), tell(b))
					}
				}
				row = got
			}
		}
		if seed%2 == 0 && wide != 127 {
			t.Errorf("%d: no wider than %d", seed, wide)
		}
	}
}

// R3: what was handed out stays as it was, whatever is asked, got or made of it then.
func TestHandedOut(t *testing.T) {
	for _, w := range widths {
		for k, full := range some(w) {
			row := build(w, full, naming(w, full)[k%3])
			put := Put(row)
			was := bytes.Clone(put)
			got, e := Get(put)
			again, err := Get(put)
			if e != err || !same(got, again) {
				t.Fatalf("%s is got as %s, %d, then as %s, %d", tell(row), tell(got), e, tell(again), err)
			}
			kept := copied(got)
			for at := range 10 {
				grown(got, 5*at+k)
				grown(again, 3*at+k)
			}
			second := Put(got)
			Put(again)
			Named(got)
			if !same(got, kept) || !bytes.Equal(put, was) || e == api.OK && !bytes.Equal(second, was) {
				t.Errorf("%s was %s", tell(got), tell(kept))
			}
		}
	}
}

// R3: what is put behind what was got, or put, meets nothing else.
func TestRoomBehind(t *testing.T) {
	own := goodLeaf + namesZero + goodLeaf + "\x00" + goodLeaf
	b := []byte(vector(own))
	one, e := Get(b)
	two, err := Get(b)
	if e != api.OK || err != api.OK {
		t.Fatalf("%d, %d", e, err)
	}
	kept := copied(one)
	_ = append(one[:len(one):len(one)], leafOf(1))
	for x := range one {
		_ = append(one[x].Leaf.Enc, "more"...)
		_ = append(one[x].Leaf.Cred, "more"...)
		_ = append(one[x].Inner.Enc, "more"...)
		_ = append(one[x].Inner.Hash, "more"...)
		_ = append(one[x].Inner.Unmerged, 7)
	}
	if string(b) != vector(own) || !same(one, kept) || !same(two, kept) {
		t.Errorf("%s, %s, %s", begin(string(b)), tell(one), tell(two))
	}
	p, q := Put(one), Put(one)
	x, y := append(p, 1), append(q, 2)
	if x[len(p)] != 1 || y[len(q)] != 2 || string(p) != vector(own) || string(q) != vector(own) {
		t.Errorf("%v, %v", x, y)
	}
}

// P1: also of a tree of which all that may be said is said no call takes long, nor of rows and octets that are long.
func TestGreatest(t *testing.T) {
	full := bytes.Repeat([]byte{7}, 200)
	row := make([]api.Node, 127)
	for x := range row {
		var below []int
		for i := range 64 {
			if slices.Contains(above(i, 127), x) {
				below = append(below, i)
			}
		}
		row[x] = api.Node{Kind: api.InnerNode, Inner: api.Inner{Enc: full, Hash: full, Unmerged: below}}
		if evens(x) {
			row[x] = api.Node{Kind: api.LeafNode, Leaf: api.Leaf{Enc: full, Cred: full, Source: 3, Parent: full}}
		}
	}
	checkTree(t, row)
	if got, e := Get(Put(row)); e != api.OK || !same(got, row) {
		t.Errorf("%s, %d", tell(got), e)
	}
	for x := 1; x < 127; x += 2 {
		row[x].Inner.Unmerged = everybody(x)
	}
	checkTree(t, row)
	great := make([]api.Node, 1<<20-1)
	if !Named(great) || string(Put(great)) != "\x00" {
		t.Error("2^20 - 1 nodes are a tree")
	}
	for _, octet := range []string{"\x00", "\x01", "\x40", "\xff"} {
		checkGet(t, strings.Repeat(octet, 1<<22))
		checkGet(t, vector(strings.Repeat(octet, 1<<20)))
	}
}

// P1, P15.2, P15.3: any octets, as they are, and as those of nodes, are told as the chapter says.
func FuzzGet(f *testing.F) {
	for _, s := range []string{"", "\x00", "\x00\x00", "\x40", "\xc0", goodLeaf, goodInner, goodLeaf + goodInner, goodLeaf + namesZero + goodLeaf, "\x00" + namesZero, goodLeaf + "\x00\x00" + namesZero + goodLeaf, goodLeaf + namesZero + "\x00" + namesZero, strings.Repeat(goodLeaf+goodInner, 63) + goodLeaf, strings.Repeat("\x00", 128), goodLeaf + strings.Repeat("\x00", 125) + goodLeaf} {
		f.Add([]byte(s))
		f.Add([]byte(vector(s)))
	}
	for bad := range badNodes() {
		f.Add([]byte(goodLeaf + bad))
	}
	f.Fuzz(func(t *testing.T, b []byte) {
		checkGet(t, string(b))
		// More would be no other octets, but too many.
		checkGet(t, vector(string(b[:min(len(b), 1<<20)])))
	})
}

// P1, R5, P15.1 to P15.3: rows of any nodes, by an octet each, are told as the chapter says, or count as the empty tree.
func FuzzRows(f *testing.F) {
	for _, s := range []string{"", "\x00", "\x01", "\x01\x00\x01", "\x01\x05\x01", "\x01\x09\x01", "\x01\x05\x01\x00\x02\x09\x00", "\x01\x01\x00\x01\x01\x01\x01", "\x00\x00\x80", "\x01\x07\x01\x01\x01\x06\x01\x01\x01\x05\x01\x01\x00\x05\x01", strings.Repeat("\x01\x03\x01\x01\x00", 26)[:127], strings.Repeat("\x01", 127)} {
		f.Add([]byte(s))
	}
	bad := wrongs()
	f.Fuzz(func(t *testing.T, b []byte) {
		// Of longer rows there is nothing new to tell.
		b = b[:min(len(b), 300)]
		names := naming(len(b), func(x int) bool { return b[x]%4 != 0 })
		var row []api.Node
		for x, octet := range b {
			k, n := int(octet), blank
			switch {
			case k >= 128:
				n = bad[k%len(bad)]
			case k%4 == 0:
			case evens(x):
				n = leafOf(k)
			default:
				n = innerOf(k, names[k/4%len(names)](x)...)
			}
			row = append(row, n)
		}
		if shape.Sane(row) {
			checkTree(t, row)
			return
		}
		if !Named(row) || string(Put(row)) != "\x00" {
			t.Errorf("%s: Named %t, Put %s", tell(row), Named(row), begin(string(Put(row))))
		}
	})
}
