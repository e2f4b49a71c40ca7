package node

import (
	"bytes"
	"math"
	"slices"
	"strconv"
	"testing"

	"cordwood/api"
)

// The most octets of a field, and the most octets that wire puts.
const (
	most     = 200
	mostData = 1 << 20
)

// kinds are what may be told as Kind, those that are none far away among them, and those that are one in their lowest octet alone.
var kinds = []int{0, 1, 2, 3, 4, -1, -2, -3, 127, 128, 254, 255, 256, 257, 258, 1<<16 + 1, 1<<24 + 2, math.MinInt32, math.MaxInt32, 1 << 32, 1<<32 + 1, 1<<32 + 2, math.MinInt, math.MinInt + 1, math.MinInt + 2, math.MaxInt - 1, math.MaxInt}

// numbers are numbers of leaves, and others, as OfLeaf is given any.
var numbers = []int{0, 1, 2, 63, 64, 126, 127, 128, 255, 256, 258, 65535, 65536, 1<<24 - 1, 1 << 24, 16909060, 1<<31 - 1, 1 << 31, 1<<32 - 1, 1 << 32, 1<<32 + 7, 1<<40 + 513, -1, -2, -64, -256, math.MinInt32, math.MinInt32 - 1, math.MinInt, math.MinInt + 3, math.MaxInt - 1, math.MaxInt}

// befores are octets behind which something is put.
var befores = []string{"", "a", "\x00", "\x01", "\xff\x00\xc0", "\x01\x01\x01\x07\x00\x01", "sixty-four"}

// rests are octets that stand behind what is got.
var rests = []string{"", "z", "\x00", "\x01", "\x01p", "\x02", "\xc0", "\x04\x00\x00\x00\x01", "\xff\xff\xff\xff", "a longer rest"}

// some are so many octets that are not all the same; first is where they begin.
func some(n, first int) []byte {
	b := make([]byte, n)
	for i := range b {
		b[i] = byte(first + i*7 + i>>8)
	}
	return b
}

// upTo are the numbers from first on, ahead of end.
func upTo(first, end int) []int {
	var out []int
	for i := first; i < end; i++ {
		out = append(out, i)
	}
	return out
}

// goodLeaves are leaves with which nothing is wrong.
func goodLeaves() []api.Leaf {
	var out []api.Leaf
	for _, enc := range []int{1, 2, 63, 64, most} {
		for _, cred := range []int{0, 1, 63, 64, most} {
			for source := range 4 {
				if source > 0 {
					out = append(out, api.Leaf{Enc: some(enc, 1), Cred: some(cred, 50), Source: source})
				}
			}
			for _, parent := range []int{1, 32, 63, 64, most} {
				out = append(out, api.Leaf{Enc: some(enc, 1), Cred: some(cred, 50), Source: 3, Parent: some(parent, 100)})
			}
		}
	}
	return out
}

// goodInners are inner nodes' words with which nothing is wrong.
func goodInners() []api.Inner {
	var out []api.Inner
	for _, enc := range []int{1, 2, 63, 64, most} {
		for _, hash := range []int{0, 1, 32, 63, 64, most} {
			for _, l := range [][]int{nil, {}, {0}, {63}, {3, 17, 40}, upTo(0, 15), upTo(0, 16), upTo(0, 64)} {
				out = append(out, api.Inner{Enc: some(enc, 7), Hash: some(hash, 60), Unmerged: l})
			}
		}
	}
	return out
}

// badLeaves are leaves with something wrong: each thing alone, and several.
func badLeaves() []api.Leaf {
	key, full, over := []byte("k"), some(most, 0), some(most+1, 0)
	out := []api.Leaf{
		{Enc: []byte{}, Source: 1}, {Cred: key, Source: 2}, {Source: 3, Parent: key}, {Enc: key}, {Enc: key, Source: 4}, {Enc: key, Source: -1}, {Enc: key, Source: 257}, {Enc: full, Cred: full, Source: 1 << 32},
		{Enc: over, Source: 1}, {Enc: key, Cred: over, Source: 2}, {Enc: key, Source: 3, Parent: over}, {Enc: some(mostData+1, 0), Source: 1},
		{Enc: key, Source: 1, Parent: key}, {Enc: key, Source: 2, Parent: full}, {Enc: over, Source: 7}, {Cred: over, Source: 1}, {Cred: over, Source: 9, Parent: over}, {Enc: key, Source: 0, Parent: key}, {Enc: key, Source: 1, Parent: over}, {Parent: key}, {Source: 5}, {Source: 1}, {Cred: key},
	}
	return out
}

// badInners are inner nodes' words with something wrong: each thing alone, and several.
func badInners() []api.Inner {
	key, full, over := []byte("k"), some(most, 0), some(most+1, 0)
	return []api.Inner{
		{Hash: key}, {Enc: []byte{}, Hash: key, Unmerged: []int{1}}, {Unmerged: []int{0}}, {Enc: over}, {Enc: key, Hash: over}, {Enc: key, Unmerged: upTo(0, 65)}, {Enc: some(mostData+1, 0)}, {Enc: key, Unmerged: make([]int, mostData/4+1)},
		{Enc: key, Unmerged: []int{-1}}, {Enc: key, Unmerged: []int{64}}, {Enc: full, Hash: full, Unmerged: []int{1 << 32}}, {Enc: key, Unmerged: []int{math.MinInt}},
		{Enc: key, Unmerged: []int{1, 1}}, {Enc: key, Unmerged: []int{2, 1}}, {Enc: key, Hash: full, Unmerged: []int{0, 3, 2}}, {Enc: over, Unmerged: []int{64}}, {Hash: over, Unmerged: []int{2, 1}}, {Enc: key, Hash: over, Unmerged: []int{3, 3}}, {Enc: key, Unmerged: []int{64, 63}},
	}
}

// emptyLeaves are all the leaves that say nothing.
func emptyLeaves() []api.Leaf {
	return []api.Leaf{{}, {Enc: []byte{}}, {Cred: []byte{}}, {Parent: []byte{}}, {Enc: []byte("x")[:0], Cred: []byte{}, Parent: make([]byte, 0, 9)}}
}

// emptyInners are all the inner nodes' words that say nothing.
func emptyInners() []api.Inner {
	return []api.Inner{{}, {Enc: []byte{}}, {Hash: []byte{}}, {Unmerged: []int{}}, {Enc: []byte("x")[:0], Hash: []byte{}, Unmerged: make([]int, 0, 9)}}
}

// little are leaves and inner nodes' words that say but one thing, each in another field.
func little() ([]api.Leaf, []api.Inner) {
	key := []byte{0}
	return []api.Leaf{{Enc: key}, {Cred: key}, {Source: 1}, {Source: -1}, {Source: 256}, {Parent: key}}, []api.Inner{{Enc: key}, {Hash: key}, {Unmerged: []int{0}}, {Unmerged: []int{-7}}}
}

// good are nodes with which nothing is wrong, blank ones too.
func good() []api.Node {
	var out []api.Node
	for k, l := range emptyLeaves() {
		for n, i := range emptyInners() {
			out = append(out, api.Node{Leaf: l, Inner: i})
			out = append(out, api.Node{Kind: 1, Leaf: goodLeaves()[k*9+n], Inner: i}, api.Node{Kind: 2, Leaf: l, Inner: goodInners()[n*9+k]})
		}
	}
	for _, l := range goodLeaves() {
		out = append(out, api.Node{Kind: 1, Leaf: l})
	}
	for _, i := range goodInners() {
		out = append(out, api.Node{Kind: 2, Inner: i})
	}
	return out
}

// bad are nodes with something wrong: each thing alone, and several, as far as they may stand together.
func bad() []api.Node {
	var out []api.Node
	leaves, inners := little()
	leaves = append(leaves, append(badLeaves(), goodLeaves()[:40:40]...)...)
	inners = append(inners, append(badInners(), goodInners()[:40:40]...)...)
	leaves, inners = append(leaves, emptyLeaves()...), append(inners, emptyInners()...)
	for _, kind := range kinds {
		for k, l := range leaves {
			for n, i := range inners {
				// All of the pairs with the first ones, and some of the others.
				if x := (api.Node{Kind: kind, Leaf: l, Inner: i}); len(wrongs(x)) > 0 && (kind >= 0 && kind <= 3 || (k+n)%7 == 0) {
					out = append(out, x)
				}
			}
		}
	}
	return out
}

// wrongs are all the things that are wrong with a node, in the chapter's order.
func wrongs(n api.Node) []api.Errno {
	var out []api.Errno
	if !slices.Contains([]int{0, 1, 2}, n.Kind) {
		out = append(out, api.ErrKind)
	}
	if n.Kind != 1 && says(n.Leaf) || n.Kind != 2 && saysInner(n.Inner) {
		out = append(out, api.ErrForm)
	}
	if n.Kind == 1 {
		out = append(out, leafWrongs(n.Leaf)...)
	}
	if n.Kind == 2 {
		out = append(out, innerWrongs(n.Inner)...)
	}
	return out
}

// says is whether a leaf says anything.
func says(l api.Leaf) bool { return len(l.Enc)+len(l.Cred)+len(l.Parent) > 0 || l.Source != 0 }

// saysInner is whether an inner node's words say anything.
func saysInner(i api.Inner) bool { return len(i.Enc)+len(i.Hash)+len(i.Unmerged) > 0 }

// leafWrongs are all the things that are wrong with a leaf, in P7.1's order.
func leafWrongs(l api.Leaf) []api.Errno {
	var out []api.Errno
	if len(l.Enc) < 1 {
		out = append(out, api.ErrEmpty)
	}
	if max(len(l.Enc), len(l.Cred), len(l.Parent)) >= 201 {
		out = append(out, api.ErrLarge)
	}
	if !slices.Contains([]int{1, 2, 3}, l.Source) {
		out = append(out, api.ErrKind)
	}
	if l.Source != 3 && len(l.Parent) >= 1 {
		out = append(out, api.ErrForm)
	}
	return out
}

// innerWrongs are all the things that are wrong with an inner node's words, in P8.1's order.
func innerWrongs(i api.Inner) []api.Errno {
	var out []api.Errno
	if len(i.Enc) < 1 {
		out = append(out, api.ErrEmpty)
	}
	if max(len(i.Enc), len(i.Hash)) >= 201 || len(i.Unmerged) >= 65 {
		out = append(out, api.ErrLarge)
	}
	if len(i.Unmerged) > 0 && (slices.Min(i.Unmerged) < 0 || slices.Max(i.Unmerged) > 63) {
		out = append(out, api.ErrRange)
	}
	for k := range i.Unmerged {
		if k > 0 && i.Unmerged[k-1] >= i.Unmerged[k] {
			return append(out, api.ErrUnmerged)
		}
	}
	return out
}

// counted are octets with their count ahead, as varint puts it; none of more than wire puts.
func counted(v []byte) string {
	switch n := len(v); {
	case n < 64:
		return string(rune(n)) + string(v)
	case n < 1<<14:
		return string([]byte{byte(64 + n>>8), byte(n)}) + string(v)
	case n <= mostData:
		return string([]byte{128, byte(n >> 16), byte(n >> 8), byte(n)}) + string(v)
	}
	return ""
}

// four are the lowest four octets of a number, the highest first.
func four(n int) string { return string([]byte{byte(n >> 24), byte(n >> 16), byte(n >> 8), byte(n)}) }

// leafLaid are the octets of a leaf, as P7.2 says them.
func leafLaid(l api.Leaf) string {
	out := counted(l.Enc) + counted(l.Cred) + string([]byte{byte(l.Source)})
	if l.Source == 3 {
		out += counted(l.Parent)
	}
	return out
}

// innerLaid are the octets of an inner node's words, as P8.2 says them.
func innerLaid(i api.Inner) string {
	var v []byte
	for _, n := range i.Unmerged {
		v = append(v, four(n)...)
	}
	return counted(i.Enc) + counted(i.Hash) + counted(v)
}

// laid are the octets that P9.2 says of a node.
func laid(n api.Node) string {
	switch {
	case len(wrongs(n)) > 0 || n.Kind == 0:
		return "\x00"
	case n.Kind == 1:
		return "\x01\x01" + leafLaid(n.Leaf)
	}
	return "\x01\x02" + innerLaid(n.Inner)
}

// flagged are a flag of whether a node is of a kind, and what it says then, as P9.3 has it ahead.
func flagged(n api.Node, kind int) string {
	if len(wrongs(n)) > 0 || n.Kind != kind {
		return "\x00"
	}
	// A node's octets tell it by a flag too, but with its kind behind.
	return "\x01" + laid(n)[2:]
}

// equal is whether two nodes have the same fields.
func equal(a, b api.Node) bool {
	if len(a.Inner.Unmerged) != len(b.Inner.Unmerged) {
		return false
	}
	for k, i := range a.Inner.Unmerged {
		if b.Inner.Unmerged[k] != i {
			return false
		}
	}
	l, m := a.Leaf, b.Leaf
	if string(l.Enc) != string(m.Enc) || string(l.Cred) != string(m.Cred) || l.Source != m.Source || string(l.Parent) != string(m.Parent) {
		return false
	}
	return a.Kind == b.Kind && string(a.Inner.Enc) == string(b.Inner.Enc) && string(a.Inner.Hash) == string(b.Inner.Hash)
}

// copied is a node of its own memory.
func copied(n api.Node) api.Node {
	l, i := n.Leaf, n.Inner
	return api.Node{
		Kind:  n.Kind,
		Leaf:  api.Leaf{Enc: bytes.Clone(l.Enc), Cred: bytes.Clone(l.Cred), Source: l.Source, Parent: bytes.Clone(l.Parent)},
		Inner: api.Inner{Enc: bytes.Clone(i.Enc), Hash: bytes.Clone(i.Hash), Unmerged: slices.Clone(i.Unmerged)},
	}
}

// tell tells a node without filling pages.
func tell(n api.Node) string {
	field := func(v []byte) string {
		return strconv.Quote(string(v[:min(len(v), 6)])) + " of " + strconv.Itoa(len(v)) + ", "
	}
	out := "{" + strconv.Itoa(n.Kind) + " {" + field(n.Leaf.Enc) + field(n.Leaf.Cred) + strconv.Itoa(n.Leaf.Source) + ", " + field(n.Leaf.Parent)
	out += "} {" + field(n.Inner.Enc) + field(n.Inner.Hash)
	for _, i := range n.Inner.Unmerged[:min(len(n.Inner.Unmerged), 6)] {
		out += strconv.Itoa(i) + " "
	}
	return out + "of " + strconv.Itoa(len(n.Inner.Unmerged)) + "}}"
}

// begin is how octets begin, without filling pages.
func begin(b string) string {
	return strconv.Quote(b[:min(len(b), 40)]) + " of " + strconv.Itoa(len(b))
}

// checkError tests that octets are no node, and that nothing is told beside the error.
func checkError(t *testing.T, b string, want api.Errno) {
	t.Helper()
	n, rest, e := Get([]byte(b))
	if e != want || !equal(n, api.Node{}) || len(rest) != 0 {
		t.Errorf("Get(%s) = %s, %d octets, %d, want %d", begin(b), tell(n), len(rest), e, want)
	}
}

// checkGot tests that octets are this node and this rest.
func checkGot(t *testing.T, b string, want api.Node, rest string) {
	t.Helper()
	n, got, e := Get([]byte(b))
	if e != api.OK || !equal(n, want) || string(got) != rest {
		t.Errorf("Get(%s) = %s, %q, %d, want %s, %q", begin(b), tell(n), got, e, tell(want), rest)
	}
}

// checkOctets tests that octets are these.
func checkOctets(t *testing.T, name string, got []byte, want string) {
	t.Helper()
	if string(got) != want {
		t.Errorf("%s is %s, want %s", name, begin(string(got)), begin(want))
	}
}

// A leaf and an inner node with which nothing is wrong.
var (
	one = api.Leaf{Enc: []byte{7}, Source: 1}
	two = api.Inner{Enc: []byte{8}, Hash: []byte{9}, Unmerged: []int{1}}
)

// P9.1: each thing that may be wrong, alone.
func TestCheckAlone(t *testing.T) {
	key, over := []byte("k"), some(most+1, 0)
	for _, c := range []struct {
		n api.Node
		e api.Errno
	}{
		{api.Node{}, api.OK},
		{api.Node{Kind: 1, Leaf: one}, api.OK},
		{api.Node{Kind: 1, Leaf: api.Leaf{Enc: key, Cred: key, Source: 3, Parent: key}}, api.OK},
		{api.Node{Kind: 2, Inner: two}, api.OK},
		{api.Node{Kind: 2, Inner: api.Inner{Enc: key}}, api.OK},
		{api.Node{Kind: -1}, api.ErrKind},
		{api.Node{Kind: 3}, api.ErrKind},
		{api.Node{Leaf: one}, api.ErrForm},
		{api.Node{Inner: two}, api.ErrForm},
		{api.Node{Kind: 2, Leaf: one, Inner: two}, api.ErrForm},
		{api.Node{Kind: 1, Leaf: one, Inner: two}, api.ErrForm},
		{api.Node{Kind: 1}, api.ErrEmpty},
		{api.Node{Kind: 1, Leaf: api.Leaf{Source: 1}}, api.ErrEmpty},
		{api.Node{Kind: 1, Leaf: api.Leaf{Enc: over, Source: 1}}, api.ErrLarge},
		{api.Node{Kind: 1, Leaf: api.Leaf{Enc: key, Cred: over, Source: 1}}, api.ErrLarge},
		{api.Node{Kind: 1, Leaf: api.Leaf{Enc: key, Source: 3, Parent: over}}, api.ErrLarge},
		{api.Node{Kind: 1, Leaf: api.Leaf{Enc: key}}, api.ErrKind},
		{api.Node{Kind: 1, Leaf: api.Leaf{Enc: key, Source: 4}}, api.ErrKind},
		{api.Node{Kind: 1, Leaf: api.Leaf{Enc: key, Source: 1, Parent: key}}, api.ErrForm},
		{api.Node{Kind: 1, Leaf: api.Leaf{Enc: key, Source: 2, Parent: key}}, api.ErrForm},
		{api.Node{Kind: 2}, api.ErrEmpty},
		{api.Node{Kind: 2, Inner: api.Inner{Hash: key}}, api.ErrEmpty},
		{api.Node{Kind: 2, Inner: api.Inner{Enc: over}}, api.ErrLarge},
		{api.Node{Kind: 2, Inner: api.Inner{Enc: key, Hash: over}}, api.ErrLarge},
		{api.Node{Kind: 2, Inner: api.Inner{Enc: key, Unmerged: upTo(0, 65)}}, api.ErrLarge},
		{api.Node{Kind: 2, Inner: api.Inner{Enc: key, Unmerged: []int{64}}}, api.ErrRange},
		{api.Node{Kind: 2, Inner: api.Inner{Enc: key, Unmerged: []int{-1}}}, api.ErrRange},
		{api.Node{Kind: 2, Inner: api.Inner{Enc: key, Unmerged: []int{1, 1}}}, api.ErrUnmerged},
		{api.Node{Kind: 2, Inner: api.Inner{Enc: key, Unmerged: []int{2, 1}}}, api.ErrUnmerged},
	} {
		if e := Check(c.n); e != c.e {
			t.Errorf("Check(%s) = %d, want %d", tell(c.n), e, c.e)
		}
	}
	for _, kind := range kinds {
		want := api.ErrKind
		if kind == 0 {
			want = api.OK
		} else if kind == 1 || kind == 2 {
			want = api.ErrEmpty
		}
		if e := Check(api.Node{Kind: kind}); e != want {
			t.Errorf("of kind %d: %d, want %d", kind, e, want)
		}
	}
}

// P9.1: of several things that are wrong the first one in the chapter's order is told.
func TestCheckSeveral(t *testing.T) {
	key, over := []byte("k"), some(most+1, 0)
	for _, c := range []struct {
		n api.Node
		e api.Errno
	}{
		{api.Node{Kind: 3, Leaf: one}, api.ErrKind},
		{api.Node{Kind: -1, Inner: two}, api.ErrKind},
		{api.Node{Kind: 257, Leaf: one, Inner: two}, api.ErrKind},
		{api.Node{Kind: 258, Leaf: api.Leaf{Cred: over}, Inner: api.Inner{Hash: over}}, api.ErrKind},
		{api.Node{Leaf: one, Inner: two}, api.ErrForm},
		{api.Node{Leaf: api.Leaf{Cred: over}}, api.ErrForm},
		{api.Node{Leaf: api.Leaf{Source: 7}}, api.ErrForm},
		{api.Node{Inner: api.Inner{Unmerged: []int{64}}}, api.ErrForm},
		{api.Node{Kind: 1, Inner: two}, api.ErrForm},
		{api.Node{Kind: 1, Leaf: api.Leaf{Enc: over, Source: 1}, Inner: two}, api.ErrForm},
		{api.Node{Kind: 1, Leaf: api.Leaf{Enc: key}, Inner: api.Inner{Hash: key}}, api.ErrForm},
		{api.Node{Kind: 1, Leaf: one, Inner: api.Inner{Unmerged: []int{2, 1}}}, api.ErrForm},
		{api.Node{Kind: 2, Leaf: one}, api.ErrForm},
		{api.Node{Kind: 2, Leaf: api.Leaf{Source: 9}, Inner: two}, api.ErrForm},
		{api.Node{Kind: 2, Leaf: api.Leaf{Parent: key}, Inner: api.Inner{Enc: over}}, api.ErrForm},
		{api.Node{Kind: 2, Leaf: one, Inner: api.Inner{Enc: key, Unmerged: []int{2, 1}}}, api.ErrForm},
		{api.Node{Kind: 1, Leaf: api.Leaf{Cred: over, Source: 8, Parent: key}}, api.ErrEmpty},
		{api.Node{Kind: 1, Leaf: api.Leaf{Enc: over, Source: 8, Parent: key}}, api.ErrLarge},
		{api.Node{Kind: 1, Leaf: api.Leaf{Enc: key, Source: 8, Parent: key}}, api.ErrKind},
		{api.Node{Kind: 2, Inner: api.Inner{Hash: over, Unmerged: []int{64, 2}}}, api.ErrEmpty},
		{api.Node{Kind: 2, Inner: api.Inner{Enc: over, Unmerged: []int{64, 2}}}, api.ErrLarge},
		{api.Node{Kind: 2, Inner: api.Inner{Enc: key, Unmerged: []int{64, 2}}}, api.ErrRange},
	} {
		if e := Check(c.n); e != c.e {
			t.Errorf("Check(%s) = %d, want %d", tell(c.n), e, c.e)
		}
	}
}

// P9.1, P9.2: of nodes of all kinds what is wrong first is told, and what has something wrong is put as a blank one.
func TestCheckAndPutAll(t *testing.T) {
	seen := map[string]bool{}
	for _, n := range append(good(), bad()...) {
		all, want := wrongs(n), api.OK
		if len(all) > 0 {
			want = all[0]
		}
		name := ""
		if n.Kind == 1 || n.Kind == 2 {
			name = strconv.Itoa(n.Kind) + ":"
		}
		for _, e := range all {
			name += " " + strconv.Itoa(int(e))
		}
		seen[name] = true
		if e := Check(n); e != want {
			t.Fatalf("Check(%s) = %d, want %d", tell(n), e, want)
		}
		if got := Put([]byte("ahead"), n); string(got) != "ahead"+laid(n) {
			t.Fatalf("Put(ahead, %s) = %s, want %s", tell(n), begin(string(got)), begin(laid(n)))
		}
	}
	for _, name := range []string{"", " 7", " 2", " 7 2", "1:", "1: 2", "1: 5", "1: 4", "1: 7", "1: 2 5", "1: 2 4", "1: 2 7", "1: 2 2", "1: 5 4 7 2", "1: 2 5 4 7 2", "2:", "2: 2", "2: 5", "2: 4", "2: 3", "2: 8", "2: 2 5", "2: 2 4", "2: 2 3", "2: 2 8", "2: 5 4 8", "2: 4 3", "2: 3 8"} {
		if !seen[name] {
			t.Errorf("no node is wrong by%q", name)
		}
	}
}

// P9.1: empty and nil fields are alike, in a Leaf of no leaf and in an Inner of no inner node.
func TestCheckEmpty(t *testing.T) {
	leaves, inners := little()
	for _, l := range emptyLeaves() {
		for _, i := range emptyInners() {
			for kind, want := range map[int]api.Errno{0: api.OK, 1: api.ErrEmpty, 2: api.ErrEmpty, 3: api.ErrKind, -1: api.ErrKind} {
				if e := Check(api.Node{Kind: kind, Leaf: l, Inner: i}); e != want {
					t.Errorf("of kind %d: %d, want %d", kind, e, want)
				}
			}
			if e := Check(api.Node{Kind: 1, Leaf: one, Inner: i}); e != api.OK {
				t.Errorf("a leaf: %d", e)
			}
			if e := Check(api.Node{Kind: 2, Leaf: l, Inner: two}); e != api.OK {
				t.Errorf("an inner node: %d", e)
			}
			// One thing said, in whatever field, is something.
			for _, x := range leaves {
				for _, n := range []api.Node{{Kind: 0, Leaf: x, Inner: i}, {Kind: 2, Leaf: x, Inner: two}, {Kind: 2, Leaf: x, Inner: i}} {
					if e := Check(n); e != api.ErrForm {
						t.Errorf("%s: %d", tell(n), e)
					}
				}
			}
			for _, x := range inners {
				for _, n := range []api.Node{{Kind: 0, Leaf: l, Inner: x}, {Kind: 1, Leaf: one, Inner: x}, {Kind: 1, Leaf: l, Inner: x}} {
					if e := Check(n); e != api.ErrForm {
						t.Errorf("%s: %d", tell(n), e)
					}
				}
			}
		}
	}
}

// differing are nodes of which no two are the same, near to one of that kind: one field each is another.
func differing(kind int) []api.Node {
	base := api.Node{Kind: kind, Leaf: api.Leaf{Enc: []byte("enc"), Cred: []byte("cred"), Source: 3, Parent: []byte("up")}, Inner: api.Inner{Enc: []byte("key"), Hash: []byte("hash"), Unmerged: []int{2, 5, 9}}}
	out := []api.Node{base}
	change := func(f func(n *api.Node)) {
		n := copied(base)
		f(&n)
		out = append(out, n)
	}
	for _, v := range []string{"", "e", "en", "end", "Enc", "enc\x00", "cred", "key", "hash", "up"} {
		change(func(n *api.Node) { n.Leaf.Enc = []byte(v) })
		change(func(n *api.Node) { n.Leaf.Parent = []byte(v + "p") })
		change(func(n *api.Node) { n.Inner.Hash = []byte(v + "h") })
	}
	for _, v := range []string{"", "c", "cre", "crew", "cred\x00", "Cred", "enc", "ke"} {
		change(func(n *api.Node) { n.Leaf.Cred = []byte(v) })
		change(func(n *api.Node) { n.Inner.Enc = []byte(v) })
	}
	for _, v := range []int{0, 1, 2, 4, -3, 259, 1<<32 + 3} {
		change(func(n *api.Node) { n.Leaf.Source = v })
	}
	for _, v := range [][]int{nil, {2}, {2, 5}, {2, 5, 8}, {2, 6, 9}, {1, 5, 9}, {5, 2, 9}, {2, 5, 9, 9}, {2, 5, 9, 0}, {2, 5, 9 + 1<<32}} {
		change(func(n *api.Node) { n.Inner.Unmerged = v })
	}
	return out
}

// P9.1: nodes that differ in one field each are not the same, in whatever place, and those that do not differ are.
func TestSame(t *testing.T) {
	var nodes []api.Node
	for _, kind := range []int{0, 1, 2, 3, -1, 256, 257, 1<<32 + 1} {
		nodes = append(nodes, differing(kind)...)
	}
	for k, a := range nodes {
		if !Same(a, copied(a)) {
			t.Errorf("%s is another", tell(a))
		}
		for n, b := range nodes {
			if Same(a, b) != (k == n) {
				t.Fatalf("%s and %s: %t", tell(a), tell(b), Same(a, b))
			}
		}
	}
}

// P9.1: nodes with which something is wrong are no blank ones for Same, but blank ones are the same.
func TestSameWrong(t *testing.T) {
	nodes := []api.Node{{}, {Kind: 1}, {Kind: 2}, {Kind: 3}, {Kind: -1}, {Kind: 1, Leaf: one}, {Kind: 2, Leaf: one}, {Leaf: one}, {Kind: 1, Leaf: one, Inner: two}, {Kind: 2, Inner: two}, {Kind: 1, Inner: two}, {Inner: two}, {Kind: 2, Leaf: one, Inner: two}, {Leaf: one, Inner: two}, {Kind: 4, Leaf: one, Inner: two}, {Kind: 1, Leaf: api.Leaf{Source: 9}}, {Leaf: api.Leaf{Cred: []byte{0}}}, {Inner: api.Inner{Unmerged: []int{0}}}, {Inner: api.Inner{Unmerged: []int{70, 3}}}}
	for k, a := range nodes {
		for n, b := range nodes {
			if Same(a, copied(b)) != (k == n) {
				t.Errorf("%s and %s: %t", tell(a), tell(b), Same(a, b))
			}
		}
	}
	// Nil and empty are alike, whatever the kind.
	for _, kind := range kinds {
		for _, l := range emptyLeaves() {
			for _, i := range emptyInners() {
				if a, b := (api.Node{Kind: kind}), (api.Node{Kind: kind, Leaf: l, Inner: i}); !Same(a, b) || !Same(b, a) {
					t.Errorf("%s is not blank", tell(b))
				}
			}
		}
	}
}

// P9.2: what is put of nodes, octet by octet.
func TestPut(t *testing.T) {
	full := string(some(most, 0))
	for _, c := range []struct {
		n    api.Node
		want string
	}{
		{api.Node{}, "\x00"},
		{api.Node{Kind: 1, Leaf: one}, "\x01\x01\x01\x07\x00\x01"},
		{api.Node{Kind: 1, Leaf: api.Leaf{Enc: []byte("enc"), Cred: []byte("cred"), Source: 2}}, "\x01\x01\x03enc\x04cred\x02"},
		{api.Node{Kind: 1, Leaf: api.Leaf{Enc: []byte("enc"), Source: 3, Parent: []byte("up")}}, "\x01\x01\x03enc\x00\x03\x02up"},
		{api.Node{Kind: 1, Leaf: api.Leaf{Enc: []byte("e"), Source: 3}}, "\x01\x01\x01e\x00\x03\x00"},
		{api.Node{Kind: 1, Leaf: api.Leaf{Enc: []byte(full), Cred: []byte(full), Source: 3, Parent: []byte(full)}}, "\x01\x01\x40\xc8" + full + "\x40\xc8" + full + "\x03\x40\xc8" + full},
		{api.Node{Kind: 2, Inner: two}, "\x01\x02\x01\x08\x01\x09\x04\x00\x00\x00\x01"},
		{api.Node{Kind: 2, Inner: api.Inner{Enc: []byte("e")}}, "\x01\x02\x01e\x00\x00"},
		{api.Node{Kind: 2, Inner: api.Inner{Enc: []byte(full), Hash: []byte(full), Unmerged: []int{0, 63}}}, "\x01\x02\x40\xc8" + full + "\x40\xc8" + full + "\x08\x00\x00\x00\x00\x00\x00\x00\x3f"},
	} {
		for _, before := range befores {
			checkOctets(t, "Put("+strconv.Quote(before)+", "+tell(c.n)+")", Put([]byte(before), c.n), before+c.want)
		}
		checkOctets(t, "Put(nil, "+tell(c.n)+")", Put(nil, c.n), c.want)
	}
}

// P9.2: nodes with which something is wrong are put as blank ones, behind whatever.
func TestPutWrong(t *testing.T) {
	key := []byte("k")
	nodes := []api.Node{{Kind: 3}, {Kind: -1, Leaf: one}, {Kind: 257, Leaf: one}, {Kind: 258, Inner: two}, {Leaf: one}, {Inner: two}, {Leaf: one, Inner: two}, {Kind: 1, Leaf: one, Inner: two}, {Kind: 2, Leaf: one, Inner: two}, {Kind: 1, Inner: two}, {Kind: 2, Leaf: one}, {Kind: 1}, {Kind: 2}, {Kind: 1, Leaf: one, Inner: api.Inner{Unmerged: []int{0}}}, {Kind: 2, Leaf: api.Leaf{Cred: key}, Inner: two}}
	for _, l := range badLeaves() {
		nodes = append(nodes, api.Node{Kind: 1, Leaf: l})
	}
	for _, i := range badInners() {
		nodes = append(nodes, api.Node{Kind: 2, Inner: i})
	}
	for _, n := range nodes {
		for _, before := range befores {
			checkOctets(t, "Put("+strconv.Quote(before)+", "+tell(n)+")", Put([]byte(before), n), before+"\x00")
		}
		checkOctets(t, "Put(nil, "+tell(n)+")", Put(nil, n), "\x00")
	}
}

// P9.2, P9.4, W2: all that is put is got, with whatever behind, and is put as it was.
func TestPutIsGot(t *testing.T) {
	nodes := good()
	for _, n := range nodes {
		put := Put(nil, n)
		for _, rest := range rests {
			got, left, e := Get(append(slices.Clone(put), rest...))
			if e != api.OK || !equal(got, n) || !Same(got, n) || string(left) != rest || !bytes.Equal(Put(nil, got), put) {
				t.Fatalf("%s and %q are got as %s, %q, %d", tell(n), rest, tell(got), left, e)
			}
		}
	}
	// One behind the other, they are got one by one.
	row := []byte(nil)
	for _, n := range nodes {
		row = Put(row, n)
	}
	for _, n := range nodes {
		got, rest, e := Get(row)
		if e != api.OK || !equal(got, n) {
			t.Fatalf("%s in a row is got as %s, %d", tell(n), tell(got), e)
		}
		row = rest
	}
	if len(row) != 0 {
		t.Errorf("%d octets are left", len(row))
	}
	// What has something wrong is got as a blank one.
	for _, n := range bad()[:2000] {
		checkGot(t, string(Put(nil, n))+"z", api.Node{}, "z")
	}
}

// P9.2: what is put, cut short at every place, is too short.
func TestGetCutShort(t *testing.T) {
	for _, n := range good() {
		put := laid(n)
		for end := range put {
			if end > 80 && end < len(put)-80 {
				continue
			}
			checkError(t, put[:end], api.ErrShort)
		}
	}
	// With something wrong that would be told only at the end, too.
	over := counted(some(most+1, 0))
	for _, b := range []string{"\x01\x01\x00\x00\x01", "\x01\x01" + over + over + "\x03" + over, "\x01\x02\x00\x00\x04\x00\x00\x00\x01", "\x01\x02" + over + "\x00\x04\x00\x00\x00\x40"} {
		for end := range b {
			checkError(t, b[:end], api.ErrShort)
		}
	}
	if n, rest, e := Get(nil); e != api.ErrShort || !equal(n, api.Node{}) || len(rest) != 0 {
		t.Error("Get(nil)", tell(n), rest, e)
	}
}

// P9.2: a flag that is none, and a kind that is none, are told as soon as they are read.
func TestGetFlagAndKind(t *testing.T) {
	behind := append([]string{"\x01\x07\x00\x01", "\x00\x00\x01", "\x01\x08\x01\x09\x04\x00\x00\x00\x01", "\xc0\xc0"}, rests...)
	for octet := range 256 {
		for _, rest := range behind {
			if octet > 1 {
				checkError(t, string([]byte{byte(octet)})+rest, api.ErrForm)
				checkError(t, string([]byte{byte(octet), 1})+rest, api.ErrForm)
			}
			if octet != 1 && octet != 2 {
				checkError(t, string([]byte{1, byte(octet)})+rest, api.ErrKind)
			}
		}
	}
	for _, rest := range behind {
		checkGot(t, "\x00"+rest, api.Node{}, rest)
	}
	// The octets of each kind are not those of the other one.
	checkError(t, "\x01\x02\x01\x07\x00\x01", api.ErrShort)
	checkError(t, "\x01\x01\x01\x08\x01\x09\x04\x00\x00\x00\x01", api.ErrKind)
	checkGot(t, "\x01\x01\x01\x08\x01\x09\x01\x00\x00\x00\x01", api.Node{Kind: 1, Leaf: api.Leaf{Enc: []byte{8}, Cred: []byte{9}, Source: 1}}, "\x00\x00\x00\x01")
	checkGot(t, "\x01\x02\x01\x07\x00\x00\x01", api.Node{Kind: 2, Inner: api.Inner{Enc: []byte{7}}}, "\x01")
}

// P9.2: what leaf.Get and parent.Get refuse is no node, by their errors.
func TestGetRefused(t *testing.T) {
	huge, full, over := "\x80\x10\x00\x01", counted(some(most, 0)), counted(some(most+1, 0))
	for _, rest := range rests {
		for b, e := range map[string]api.Errno{
			"\xc0": api.ErrForm, "\x40\x00": api.ErrForm, "\x80\x00\x00\x01a": api.ErrForm, huge: api.ErrLarge, "\x01a\xc0": api.ErrForm, "\x01a" + huge: api.ErrLarge, over + "\xc0": api.ErrForm,
			"\x01a\x00\x00": api.ErrKind, "\x01a\x00\x04": api.ErrKind, "\x00\x00\x07": api.ErrKind, over + over + "\xff": api.ErrKind, "\x01a\x00\x03\xc0": api.ErrForm, "\x00\x00\x03" + huge: api.ErrLarge,
			"\x00\x00\x01": api.ErrEmpty, "\x00\x01a\x02": api.ErrEmpty, "\x00" + over + "\x03" + over: api.ErrEmpty, over + "\x00\x01": api.ErrLarge, "\x01a" + over + "\x02": api.ErrLarge, full + full + "\x03" + over: api.ErrLarge,
		} {
			checkError(t, "\x01\x01"+b+rest, e)
		}
		for b, e := range map[string]api.Errno{
			"\xc0": api.ErrForm, "\x40\x00": api.ErrForm, huge: api.ErrLarge, "\x01a\xc0": api.ErrForm, "\x01a" + huge: api.ErrLarge, "\x01a\x00\xc0": api.ErrForm, "\x00\x00" + huge: api.ErrLarge, "\x01a\x00\x03abc": api.ErrForm, over + "\x00\x01a": api.ErrForm,
			"\x00\x00\x00": api.ErrEmpty, "\x00" + over + "\x04\x00\x00\x00\x40": api.ErrEmpty, over + "\x00\x00": api.ErrLarge, "\x01a" + over + "\x00": api.ErrLarge, "\x01a" + innerLaid(api.Inner{Unmerged: upTo(0, 65)})[1:]: api.ErrLarge,
			"\x01a\x00\x04\x00\x00\x00\x40": api.ErrRange, "\x01a\x00\x04\xff\xff\xff\xff": api.ErrRange, "\x01a\x00\x08\x00\x00\x00\x40\x00\x00\x00\x01": api.ErrRange, "\x01a\x00\x08\x00\x00\x00\x01\x00\x00\x00\x01": api.ErrUnmerged, full + full + "\x08\x00\x00\x00\x3f\x00\x00\x00\x00": api.ErrUnmerged,
		} {
			checkError(t, "\x01\x02"+b+rest, e)
		}
	}
}

// letters are all the texts of so many letters, and of fewer.
func letters(alphabet string, n int) []string {
	out := []string{""}
	for at := 0; len(out[at]) < n; at++ {
		for _, letter := range []byte(alphabet) {
			out = append(out, out[at]+string([]byte{letter}))
		}
	}
	return out
}

// P9.2, P9.4, W2: of all short octets, those that begin with a node are that node and the rest, and nothing else is one.
func TestGetShortOctets(t *testing.T) {
	const alphabet, longest = "\x00\x01\x02\x03", 9
	nodes := map[string]api.Node{"\x00": {}}
	texts := letters(alphabet, 3)
	for _, enc := range texts[1:] {
		for _, other := range texts {
			l := api.Leaf{Enc: []byte(enc), Cred: []byte(other)}
			for source := range 3 {
				l.Source = source + 1
				nodes["\x01\x01"+leafLaid(l)] = api.Node{Kind: 1, Leaf: l}
			}
			for _, parent := range texts[1:] {
				l.Parent = []byte(parent)
				nodes["\x01\x01"+leafLaid(l)] = api.Node{Kind: 1, Leaf: l}
			}
			i := api.Inner{Enc: []byte(enc), Hash: []byte(other)}
			nodes["\x01\x02"+innerLaid(i)] = api.Node{Kind: 2, Inner: i}
		}
	}
	found := 0
	for _, b := range letters(alphabet, longest) {
		begins := -1
		for end := range len(b) + 1 {
			if _, ok := nodes[b[:end]]; ok {
				begins = end
			}
		}
		got, rest, e := Get([]byte(b))
		if begins < 0 {
			if e == api.OK || !equal(got, api.Node{}) || len(rest) != 0 {
				t.Fatalf("%q is %s, %q, %d", b, tell(got), rest, e)
			}
			continue
		}
		found++
		if e != api.OK || !equal(got, nodes[b[:begins]]) || string(rest) != b[begins:] || string(Put(nil, got)) != b[:begins] {
			t.Fatalf("%q is %s, %q, %d", b, tell(got), rest, e)
		}
	}
	if found < 1000 {
		t.Errorf("only %d are nodes", found)
	}
}

// P9.3: what is summed up of leaves and of others, octet by octet.
func TestOfLeaf(t *testing.T) {
	for _, c := range []struct {
		i    int
		n    api.Node
		want string
	}{
		{0, api.Node{}, "\x01\x00\x00\x00\x00\x00"},
		{258, api.Node{Kind: 1, Leaf: one}, "\x01\x00\x00\x01\x02\x01\x01\x07\x00\x01"},
		{63, api.Node{Kind: 1, Leaf: api.Leaf{Enc: []byte("e"), Cred: []byte("c"), Source: 3, Parent: []byte("up")}}, "\x01\x00\x00\x00\x3f\x01\x01e\x01c\x03\x02up"},
		{1, api.Node{Kind: 2, Inner: two}, "\x01\x00\x00\x00\x01\x00"},
		{-1, api.Node{Kind: 1, Leaf: one}, "\x01\xff\xff\xff\xff\x01\x01\x07\x00\x01"},
		{1<<32 + 5, api.Node{}, "\x01\x00\x00\x00\x05\x00"},
		{2, api.Node{Kind: 1}, "\x01\x00\x00\x00\x02\x00"},
		{2, api.Node{Kind: 1, Leaf: one, Inner: two}, "\x01\x00\x00\x00\x02\x00"},
		{2, api.Node{Leaf: one}, "\x01\x00\x00\x00\x02\x00"},
		{2, api.Node{Kind: 257, Leaf: one}, "\x01\x00\x00\x00\x02\x00"},
	} {
		checkOctets(t, "OfLeaf("+strconv.Itoa(c.i)+", "+tell(c.n)+")", OfLeaf(c.i, c.n), c.want)
	}
	nodes := append(good(), bad()[:3000]...)
	for _, i := range numbers {
		for k, n := range nodes {
			if k%17 == 0 || i == 16909060 {
				checkOctets(t, "OfLeaf("+strconv.Itoa(i)+", "+tell(n)+")", OfLeaf(i, n), "\x01"+four(i)+flagged(n, 1))
			}
		}
	}
}

// P9.3: what is summed up of inner nodes and of others, octet by octet.
func TestOfInner(t *testing.T) {
	for _, c := range []struct {
		n           api.Node
		left, right string
		want        string
	}{
		{api.Node{}, "", "", "\x02\x00\x00\x00"},
		{api.Node{}, "l", "", "\x02\x00\x01l\x00"},
		{api.Node{}, "", "r", "\x02\x00\x00\x01r"},
		{api.Node{Kind: 2, Inner: two}, "l", "rr", "\x02\x01\x01\x08\x01\x09\x04\x00\x00\x00\x01\x01l\x02rr"},
		{api.Node{Kind: 2, Inner: api.Inner{Enc: []byte("e")}}, "left", "right", "\x02\x01\x01e\x00\x00\x04left\x05right"},
		{api.Node{Kind: 1, Leaf: one}, "l", "r", "\x02\x00\x01l\x01r"},
		{api.Node{Kind: 2}, "l", "r", "\x02\x00\x01l\x01r"},
		{api.Node{Kind: 2, Leaf: one, Inner: two}, "l", "r", "\x02\x00\x01l\x01r"},
		{api.Node{Inner: two}, "l", "r", "\x02\x00\x01l\x01r"},
		{api.Node{Kind: -254, Inner: two}, "l", "r", "\x02\x00\x01l\x01r"},
	} {
		checkOctets(t, "OfInner("+tell(c.n)+", "+c.left+", "+c.right+")", OfInner(c.n, []byte(c.left), []byte(c.right)), c.want)
	}
	checkOctets(t, "OfInner of nil", OfInner(api.Node{}, nil, nil), "\x02\x00\x00\x00")
	lengths := []int{0, 1, 32, 63, 64, 200, 201, 1<<14 - 1, 1 << 14}
	nodes := append(good(), bad()[:3000]...)
	for k, n := range nodes {
		left, right := some(lengths[k%len(lengths)], 3), some(lengths[k/7%len(lengths)], 5)
		checkOctets(t, "OfInner("+tell(n)+")", OfInner(n, left, right), "\x02"+flagged(n, 2)+counted(left)+counted(right))
	}
}

// P9.3: what is summed up of a parent, octet by octet, whatever is wrong with it.
func TestOfParent(t *testing.T) {
	for _, c := range []struct {
		n       api.Inner
		sibling string
		want    string
	}{
		{api.Inner{}, "", "\x00\x00\x00"},
		{two, "s", "\x01\x08\x01\x09\x01s"},
		{api.Inner{Enc: []byte("enc"), Unmerged: []int{4, 2}}, "", "\x03enc\x00\x00"},
		{api.Inner{Hash: []byte("hash")}, "sibling", "\x00\x04hash\x07sibling"},
		{api.Inner{Enc: []byte{}, Hash: []byte{}, Unmerged: []int{99}}, "sib", "\x00\x00\x03sib"},
	} {
		checkOctets(t, "OfParent("+tell(api.Node{Inner: c.n})+", "+c.sibling+")", OfParent(c.n, []byte(c.sibling)), c.want)
	}
	checkOctets(t, "OfParent of nil", OfParent(api.Inner{}, nil), "\x00\x00\x00")
	inners := append(append(goodInners(), badInners()...), emptyInners()...)
	for _, i := range inners {
		for _, n := range []int{0, 1, 32, 63, 64, 1 << 14} {
			checkOctets(t, "OfParent("+tell(api.Node{Inner: i})+")", OfParent(i, some(n, 3)), counted(i.Enc)+counted(i.Hash)+counted(some(n, 3)))
		}
	}
}

// P9.3: of more octets than wire puts nothing is summed up, as P2.2 has it, but of just as many.
func TestOfMuch(t *testing.T) {
	most, over := some(mostData, 1), some(mostData+1, 1)
	inner := api.Node{Kind: 2, Inner: two}
	ahead := "\x02" + flagged(inner, 2)
	checkOctets(t, "left", OfInner(inner, most, nil), ahead+counted(most)+"\x00")
	checkOctets(t, "right", OfInner(inner, nil, most), ahead+"\x00"+counted(most))
	checkOctets(t, "too much left", OfInner(inner, over, []byte("r")), ahead+"\x01r")
	checkOctets(t, "too much right", OfInner(inner, []byte("l"), over), ahead+"\x01l")
	checkOctets(t, "too much", OfInner(api.Node{}, over, over), "\x02\x00")
	checkOctets(t, "sibling", OfParent(two, most), "\x01\x08\x01\x09"+counted(most))
	checkOctets(t, "too much of a sibling", OfParent(two, over), "\x01\x08\x01\x09")
	checkOctets(t, "too much of a key", OfParent(api.Inner{Enc: over, Hash: most}, []byte("s")), counted(most)+"\x01s")
	checkOctets(t, "too much of a hash", OfParent(api.Inner{Enc: []byte("e"), Hash: over}, []byte("s")), "\x01e\x01s")
}

// The chapter's example: a blank node is 0, and a leaf with Enc 7 and Source 1 is 1 1 1 7 0 1.
func TestExample(t *testing.T) {
	checkOctets(t, "a blank node", Put(nil, api.Node{}), string([]byte{0}))
	checkOctets(t, "a leaf", Put(nil, api.Node{Kind: api.LeafNode, Leaf: api.Leaf{Enc: []byte{7}, Source: 1}}), string([]byte{1, 1, 1, 7, 0, 1}))
	checkGot(t, string([]byte{0}), api.Node{}, "")
	checkGot(t, string([]byte{1, 1, 1, 7, 0, 1}), api.Node{Kind: api.LeafNode, Leaf: api.Leaf{Enc: []byte{7}, Source: 1}}, "")
}

// R3: no call changes what it is given, nor the room behind it.
func TestCallsLeaveOthers(t *testing.T) {
	whole, field, numbers := []byte("before and behind"), []byte("a field and more"), []int{1, 2, 9, 4}
	leafs := api.Node{Kind: 1, Leaf: api.Leaf{Enc: field[:1], Cred: field[2:7], Source: 3, Parent: field[8:11]}}
	inner := api.Node{Kind: 2, Inner: api.Inner{Enc: field[:1], Hash: field[2:7], Unmerged: numbers[:3]}}
	wrong := api.Node{Kind: 2, Leaf: leafs.Leaf, Inner: api.Inner{Enc: field[:1], Unmerged: numbers}}
	const putLeaf, putInner = "\x01a\x05field\x03\x03and", "\x01a\x05field\x0c\x00\x00\x00\x01\x00\x00\x00\x02\x00\x00\x00\x09"
	for k, x := range []struct {
		got  []byte
		want string
	}{
		{Put(whole[:6], leafs), "before\x01\x01" + putLeaf}, {Put(whole[:6], inner), "before\x01\x02" + putInner}, {Put(whole[:6], wrong), "before\x00"}, {Put(whole[:6], api.Node{}), "before\x00"}, {Put(field[:7], leafs), "a field\x01\x01" + putLeaf},
		{OfLeaf(5, leafs), "\x01\x00\x00\x00\x05\x01" + putLeaf}, {OfLeaf(5, wrong), "\x01\x00\x00\x00\x05\x00"},
		{OfInner(inner, whole[:3], whole[11:13]), "\x02\x01" + putInner + "\x03bef\x02be"}, {OfInner(inner, field[:1], field[2:4]), "\x02\x01" + putInner + "\x01a\x02fi"}, {OfInner(wrong, whole[:0], whole[:1]), "\x02\x00\x00\x01b"},
		{OfParent(inner.Inner, whole[:6]), "\x01a\x05field\x06before"},
	} {
		checkOctets(t, strconv.Itoa(k), x.got, x.want)
	}
	for _, n := range []api.Node{leafs, inner, wrong} {
		for _, m := range []api.Node{leafs, inner, wrong} {
			Check(n)
			Same(n, m)
		}
	}
	if string(whole) != "before and behind" || string(field) != "a field and more" || !slices.Equal(numbers, []int{1, 2, 9, 4}) {
		t.Errorf("the octets became %q and %q, the numbers %v", whole, field, numbers)
	}
}

// R3: what is put twice behind the same octets leaves each other as it is.
func TestPutTwice(t *testing.T) {
	a, b := api.Node{Kind: 1, Leaf: one}, api.Node{Kind: 2, Inner: two}
	const putA, putB = "\x01\x01\x01\x07\x00\x01", "\x01\x02\x01\x08\x01\x09\x04\x00\x00\x00\x01"
	for _, start := range [][]byte{nil, make([]byte, 2, 64), Put(nil, a), Put(make([]byte, 1, 64), b), Put(make([]byte, 1, 64), api.Node{}), OfLeaf(3, a), OfInner(b, nil, nil), OfParent(two, nil)} {
		before := string(start)
		first := Put(start, a)
		second := Put(start, b)
		blank := Put(start, api.Node{})
		third := Put(first, b)
		fourth := Put(first, a)
		fifth := Put(blank, b)
		sixth := Put(blank, api.Node{Kind: 9})
		for k, x := range []struct {
			got  []byte
			want string
		}{{start, before}, {first, before + putA}, {second, before + putB}, {blank, before + "\x00"}, {third, before + putA + putB}, {fourth, before + putA + putA}, {fifth, before + "\x00" + putB}, {sixth, before + "\x00\x00"}} {
			checkOctets(t, strconv.Itoa(k)+" behind "+begin(before), x.got, x.want)
		}
	}
}

// R3: what is got from stays as it is, also when something is put behind what was got.
func TestGetLeavesOctets(t *testing.T) {
	for octets, want := range map[string]api.Node{
		"\x01\x01\x01a\x02ha\x03\x02uprest and more":           {Kind: 1, Leaf: api.Leaf{Enc: []byte("a"), Cred: []byte("ha"), Source: 3, Parent: []byte("up")}},
		"\x01\x02\x01a\x02ha\x04\x00\x00\x00\x07rest and more": {Kind: 2, Inner: api.Inner{Enc: []byte("a"), Hash: []byte("ha"), Unmerged: []int{7}}},
		"\x00rest and more": {},
	} {
		b := []byte(octets)
		n, rest, e := Get(b[:len(b)-len(" and more")])
		if e != api.OK || string(rest) != "rest" || !equal(n, want) {
			t.Fatal(tell(n), rest, e)
		}
		// A field that is got and made longer does not run into what is behind it.
		for _, v := range [][]byte{n.Leaf.Enc, n.Leaf.Cred, n.Leaf.Parent, n.Inner.Enc, n.Inner.Hash} {
			_ = append(v, "longer"...)
		}
		for _, v := range [][]byte{n.Leaf.Enc, n.Inner.Hash, rest} {
			Put(v, n)
			OfInner(n, v, v)
			OfParent(n.Inner, v)
		}
		if string(b) != octets || !equal(n, want) {
			t.Errorf("the octets became %q, the node %s", b, tell(n))
		}
	}
}

// What is told hangs on the arguments alone: asked again, also with others asked between, the same is told.
func TestAskedAgain(t *testing.T) {
	nodes := append(good(), bad()[:1000]...)
	for k, n := range nodes {
		put, leafs, inner, e := Put(nil, n), OfLeaf(k, n), OfInner(n, []byte("l"), []byte("r")), Check(n)
		other := nodes[(k*31+7)%len(nodes)]
		Get(Put(nil, other))
		OfLeaf(k+1, other)
		OfInner(other, []byte("r"), nil)
		if Check(n) != e || !bytes.Equal(Put(nil, n), put) || !bytes.Equal(OfLeaf(k, n), leafs) || !bytes.Equal(OfInner(n, []byte("l"), []byte("r")), inner) {
			t.Fatalf("%s is told otherwise", tell(n))
		}
		got, _, _ := Get(put)
		if again, _, e := Get(put); e != api.OK || !Same(got, again) || Same(got, n) != (len(wrongs(n)) == 0) {
			t.Fatalf("%s is got otherwise", tell(n))
		}
	}
}

// P1, P9.2, P9.4: whatever the octets are, they are a node that is put as it was, or an error stands alone.
func FuzzGet(f *testing.F) {
	for _, s := range []string{"", "\x00", "\x01", "\x02", "\x01\x00", "\x01\x03", "\x01\x01\x01\x07\x00\x01", "\x01\x01\x00\x00\x01", "\x01\x01\x01a\x00\x03\x02up", "\x01\x02\x01\x08\x01\x09\x04\x00\x00\x00\x01", "\x01\x02\x01a\x00\x08\x00\x00\x00\x02\x00\x00\x00\x01", "\x01\x02\x01a\x00\x03abc", "\x01\x01\xc0"} {
		f.Add([]byte(s))
	}
	f.Fuzz(func(t *testing.T, b []byte) {
		before := bytes.Clone(b)
		n, rest, e := Get(b)
		switch e {
		case api.OK:
			if len(wrongs(n)) > 0 || laid(n)+string(rest) != string(b) || string(Put(nil, n)) != laid(n) || Check(n) != api.OK {
				t.Fatalf("%q is %s, %q", b, tell(n), rest)
			}
		case api.ErrShort, api.ErrForm, api.ErrRange, api.ErrLarge, api.ErrEmpty, api.ErrKind, api.ErrUnmerged:
			if !equal(n, api.Node{}) || len(rest) != 0 {
				t.Fatalf("%q: more than error %d", b, e)
			}
		default:
			t.Fatalf("%q: error %d", b, e)
		}
		if !bytes.Equal(b, before) {
			t.Fatalf("%q became %q", before, b)
		}
	})
}

// signed are numbers of an octet each, from -128 to 127, but each fifth one of them far away.
func signed(b []byte) []int {
	var out []int
	for k, octet := range b {
		n := int(int8(octet))
		if k%5 == 4 {
			n <<= 40
		}
		out = append(out, n)
	}
	return out
}

// P1, P9.1 to P9.4: whatever the node is, it is put, got and summed up as what it counts as.
func FuzzPut(f *testing.F) {
	f.Add([]byte("before"), 1, []byte("enc"), []byte("cred"), 3, []byte("up"), []byte(nil), []byte(nil), []byte(nil))
	f.Add([]byte("before"), 2, []byte(nil), []byte(nil), 0, []byte(nil), []byte("enc"), []byte("hash"), []byte{1, 2, 63})
	f.Add([]byte(nil), 0, []byte(nil), []byte(nil), 0, []byte(nil), []byte(nil), []byte(nil), []byte(nil))
	f.Add([]byte{0}, 3, []byte("enc"), []byte("cred"), 1, []byte(nil), []byte("enc"), []byte("hash"), []byte{1})
	f.Add([]byte{1, 2}, 2, []byte("enc"), []byte{}, 2, []byte{}, []byte("enc"), []byte{}, []byte{64, 255, 3})
	f.Add([]byte{}, math.MinInt+1, some(most+1, 0), []byte("c"), math.MaxInt, []byte("p"), []byte(nil), []byte("h"), make([]byte, 65))
	f.Fuzz(func(t *testing.T, b []byte, kind int, enc, cred []byte, source int, up, key, hash, unmerged []byte) {
		n := api.Node{Kind: kind, Leaf: api.Leaf{Enc: enc, Cred: cred, Source: source, Parent: up}, Inner: api.Inner{Enc: key, Hash: hash, Unmerged: signed(unmerged)}}
		was, all, want := copied(n), wrongs(n), api.OK
		if len(all) > 0 {
			want = all[0]
		}
		put := Put(b, n)
		if Check(n) != want || string(put) != string(b)+laid(n) {
			t.Fatalf("%s: %d, %q", tell(n), Check(n), put)
		}
		got, rest, e := Get(put[len(b):])
		if e != api.OK || len(rest) != 0 || Same(got, n) != (want == api.OK) || want != api.OK && !Same(got, api.Node{}) {
			t.Fatalf("%s is got as %s, %q, %d", tell(n), tell(got), rest, e)
		}
		checkOctets(t, "OfLeaf", OfLeaf(source, n), "\x01"+four(source)+flagged(n, 1))
		checkOctets(t, "OfInner", OfInner(n, enc, b), "\x02"+flagged(n, 2)+counted(enc)+counted(b))
		checkOctets(t, "OfParent", OfParent(n.Inner, cred), counted(key)+counted(hash)+counted(cred))
		if !equal(n, was) || !Same(n, was) {
			t.Fatalf("%s became %s", tell(was), tell(n))
		}
	})
}
