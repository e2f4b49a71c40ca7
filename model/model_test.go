package model

import (
	"bytes"
	"crypto/sha256"
	"math"
	"reflect"
	"slices"
	"strconv"
	"strings"
	"testing"

	"cordwood/api"
	"cordwood/chain"
	"cordwood/edit"
	"cordwood/hash"
	"cordwood/node"
	"cordwood/octets"
	"cordwood/resolve"
	"cordwood/shape"
	"cordwood/walk"
)

// great is the greatest number that a tree may be kept by.
const great = 1 << 40

// far are numbers that no node and no leaf has; of some the double runs over into the nodes of a tree.
var far = []int{math.MinInt, math.MinInt + 1, math.MinInt / 2, math.MinInt/2 + 1, math.MinInt32, -64, -2, -1, 127, 128, 1 << 32, great, great + 1, 1 << 62, 1<<62 + 1, math.MaxInt - 1, math.MaxInt}

// may is whether a state may be.
func may(s api.State) bool {
	ids, rows := []int{0}, [][]api.Node{s.T}
	for _, k := range s.Kept {
		ids, rows = append(ids, k.ID), append(rows, k.T)
	}
	for at := range s.Kept {
		if ids[at] >= ids[at+1] {
			return false
		}
	}
	for _, row := range rows {
		if !shape.Sane(row) {
			return false
		}
	}
	return len(s.Kept) < 9 && 0 <= s.Next && s.Next <= great && slices.Max(ids) <= s.Next
}

// want is what Do is to tell.
func want(s api.State, o api.Op) (api.State, api.Answer) {
	if !may(s) {
		s = api.State{}
	}
	u, a := s, api.Answer{}
	kept := map[int][]api.Node{}
	for _, k := range s.Kept {
		kept[k.ID] = k.T
	}
	old, is := kept[o.I]
	switch o.What {
	case 1:
		u.T, a.N, a.E = edit.Add(s.T, o.L)
	case 2:
		u.T, a.E = edit.Remove(s.T, o.I)
	case 3:
		u.T, a.E = edit.Change(s.T, o.I, o.L)
	case 4:
		u.T, a.E = edit.Commit(s.T, o.I, o.L, o.Keys)
	case 5:
		u.Next++
		a.N = u.Next
		u.Kept = append(slices.Clone(s.Kept), api.Kept{ID: a.N, T: s.T})
		if len(u.Kept) > 8 || u.Next > great {
			a.E = api.ErrFull
		}
	case 6, 7:
		if u.T = old; o.What == 7 {
			u.T = s.T
			u.Kept = slices.DeleteFunc(slices.Clone(s.Kept), func(k api.Kept) bool { return k.ID == o.I })
		}
		if !is {
			a.E = api.ErrNone
		}
	case 8:
		u.T, a.E = octets.Get(o.B)
	case 9, 10, 11, 12, 13, 14, 15:
		kept[0] = s.T
		asked, is := kept[o.Old]
		a = wantTold(asked, o)
		if !is {
			a.E = api.ErrNone
		}
	default:
		a.E = api.ErrArg
	}
	if a.E != api.OK {
		return s, api.Answer{E: a.E}
	}
	return u, a
}

// wantTold is what a question is to tell of a tree.
func wantTold(row []api.Node, o api.Op) (a api.Answer) {
	leaves := (len(row) + 1) / 2
	ends := [16]int{9: len(row), 10: leaves, 11: leaves, 12: len(row), 13: math.MaxInt, 14: math.MaxInt, 15: math.MaxInt}
	if o.What < 13 && o.I < 0 || o.What < 13 && o.I >= ends[o.What] {
		return api.Answer{E: api.ErrRange}
	}
	switch o.What {
	case 9:
		a.L = resolve.Resolve(row, o.I)
	case 10:
		a.L = resolve.Filter(row, o.I)
	case 11:
		a.L = walk.Copath(2*o.I, len(row))
	case 12:
		a.B = hash.Of(row, o.I)
	case 13:
		a.Is = chain.Verify(row)
	case 14:
		a.B = octets.Put(row)
	case 15:
		a.L = []int{leaves}
		for x := 0; x < len(row); x += 2 {
			if row[x].Kind != api.Blank {
				a.N++
			}
		}
	}
	return a
}

// same is whether two rows have the same nodes.
func same(a, b []api.Node) bool { return slices.EqualFunc(a, b, node.Same) }

// sameState is whether two states are the same.
func sameState(a, b api.State) bool {
	return same(a.T, b.T) && a.Next == b.Next && slices.EqualFunc(a.Kept, b.Kept, func(k, l api.Kept) bool { return k.ID == l.ID && same(k.T, l.T) })
}

// sameAnswer is whether two answers are the same.
func sameAnswer(a, b api.Answer) bool {
	return a.E == b.E && a.N == b.N && slices.Equal(a.L, b.L) && bytes.Equal(a.B, b.B) && a.Is == b.Is
}

// sameAnswers is whether two lists of answers are the same.
func sameAnswers(a, b []api.Answer) bool { return slices.EqualFunc(a, b, sameAnswer) }

// tell tells a state by its nodes, without filling pages.
func tell(s api.State) string {
	out := "{" + tellRow(s.T)
	for _, k := range s.Kept {
		out += ", " + strconv.Itoa(k.ID) + ":" + tellRow(k.T)
	}
	return out + ", next " + strconv.Itoa(s.Next) + "}"
}

// tellRow tells a row likewise.
func tellRow(t []api.Node) string {
	var b strings.Builder
	for _, n := range t[:min(len(t), 31)] {
		b.WriteString(strconv.Itoa(n.Kind))
	}
	return b.String() + "/" + strconv.Itoa(len(t))
}

// tellOp tells an operation likewise.
func tellOp(o api.Op) string {
	return "what " + strconv.Itoa(o.What) + ", of " + strconv.Itoa(o.I) + ", of old " + strconv.Itoa(o.Old)
}

// leafOf is what a leaf may say, something else for each number, from one of the places that it may come from.
func leafOf(k, source int) api.Leaf {
	return api.Leaf{Enc: []byte{byte(k), byte(k >> 8), 'l'}, Cred: []byte{'w', byte(k)}, Source: source}
}

// grown is a tree of so many leaves.
func grown(n int) []api.Node {
	var row []api.Node
	for k := range n {
		row, _, _ = edit.Add(row, leafOf(k, 1))
	}
	return row
}

// planned is an operation by which a leaf makes its way up anew: what it is to say, and keys, as many as its way asks.
func planned(row []api.Node, i, k int) api.Op {
	keys := make([][]byte, len(resolve.Filter(row, i)))
	for at := range keys {
		keys[at] = []byte{byte(at), byte(k), 'k'}
	}
	l := leafOf(k, 3)
	_, l.Parent, _ = chain.Plan(row, i, keys)
	return api.Op{What: 4, I: i, L: l, Keys: keys}
}

// climbed is a tree in which a leaf has made its way up.
func climbed(row []api.Node, i, k int) []api.Node {
	o := planned(row, i, k)
	out, e := edit.Commit(row, i, o.L, o.Keys)
	if e != api.OK {
		panic("no way up: " + strconv.Itoa(int(e)))
	}
	return out
}

// widest are how many leaves a tree of each width has at most; the empty one is none of these.
var widest = []int{1, 2, 4, 8, 16, 32, 64}

// treesOf are trees with so many leaves at most: leaves alone, all or some, some of whom made their way up, with others that came later, one whose root nobody made, and blank nodes alone.
func treesOf(n int) [][]api.Node {
	row := grown(n)
	made := climbed(climbed(row, n-1, n), 0, 7)
	late := made
	for _, i := range []int{n / 2, n / 3} {
		if less, e := edit.Remove(climbed(late, 0, i), i); e == api.OK && len(less) == len(late) {
			late, _, _ = edit.Add(less, leafOf(i+100, 1))
		}
	}
	less, _ := edit.Remove(made, n/2)
	nobody := slices.Clone(row)
	if n > 1 {
		nobody[n-1] = api.Node{Kind: 2, Inner: api.Inner{Enc: []byte{7}, Unmerged: []int{n - 1}}}
	}
	return [][]api.Node{row, made, late, less, nobody, make([]api.Node, 2*n-1)}
}

// trees are trees of each width, the empty one first.
func trees() [][]api.Node {
	out := [][]api.Node{nil}
	for _, n := range widest {
		out = append(out, treesOf(n)...)
	}
	return out
}

// noTrees are rows that are no tree, by each of the things that a tree must be.
func noTrees() [][]api.Node {
	out := [][]api.Node{make([]api.Node, 2), make([]api.Node, 4), make([]api.Node, 126), make([]api.Node, 128), make([]api.Node, 255), grown(64)[:125]}
	inner := api.Node{Kind: 2, Inner: api.Inner{Enc: []byte{7}}}
	leaf := api.Node{Kind: 1, Leaf: leafOf(1, 1)}
	for _, n := range widest {
		for _, wrong := range []api.Node{inner, {Kind: 3}, {Kind: -1}, {Kind: 1}, {Kind: 2}, {Leaf: leaf.Leaf}, {Kind: 1, Leaf: leafOf(1, 4)}, {Kind: 1, Leaf: leaf.Leaf, Inner: inner.Inner}} {
			row := grown(n)
			row[2*n-2] = wrong
			out = append(out, row)
		}
		if n > 1 {
			row := grown(n)
			row[n-1] = leaf
			out = append(out, row)
		}
	}
	return out
}

// keep is a state that keeps these trees, by numbers that rise by so many.
func keep(t []api.Node, next, step int, kept ...[]api.Node) api.State {
	s := api.State{T: t, Next: next}
	for k, row := range kept {
		s.Kept = append(s.Kept, api.Kept{ID: step*k + 1, T: row})
	}
	return s
}

// states are states that may be: with each tree, and nothing kept, or some trees, or as many as may be, and numbers at the end.
func states() []api.State {
	all := trees()
	var out []api.State
	for k, row := range all {
		other := all[(5*k+3)%len(all)]
		switch k % 4 {
		case 0:
			out = append(out, keep(row, 0, 1), keep(row, great, 1<<39, other))
		case 1:
			out = append(out, keep(row, 9, 3, other, nil, all[k/2]))
		case 2:
			out = append(out, keep(row, 8, 1, slices.Repeat([][]api.Node{other, row}, 4)...))
		case 3:
			out = append(out, keep(row, great-1, 1<<36, other, other))
		}
	}
	return append(out, api.State{}, api.State{T: []api.Node{}, Kept: []api.Kept{}, Next: 1})
}

// noStates are states that may not be, by each of the things that a state must be.
func noStates() []api.State {
	row := grown(5)
	out := []api.State{
		keep(nil, -1, 1), keep(row, -1, 1), keep(row, math.MinInt, 1), keep(row, great+1, 1), keep(row, math.MaxInt, 1), keep(row, 1<<41, 1), keep(row, 1<<63-great, 1),
		keep(row, 8, 1, make([][]api.Node, 8)...), keep(row, 9, 1, make([][]api.Node, 9)...), keep(row, 64, 1, make([][]api.Node, 64)...),
		keep(row, 0, 1, row), keep(row, -1, 1, row), keep(row, 3, 3, row, row), keep(row, great+1, great, row, row), keep(row, great, great, row, row),
		keep(row, 9, 0, row, row), keep(row, 9, -1, row, row), keep(row, 9, -1, row, row, row),
	}
	out[7].Next = 7
	for _, ids := range [][]int{{0}, {-1}, {math.MinInt}, {0, 1}, {-1, 1, 2}, {2, 1}, {1, 1}, {1, 3, 3}, {1, 3, 2}, {3, 1, 2}, {1, 2, 3, 4, 5, 6, 7, 7}, {2, 1, 3, 4, 5, 6, 7, 8}, {1, 10}, {1, great + 1}, {1, math.MaxInt}} {
		s := api.State{T: row, Next: 9}
		for _, id := range ids {
			s.Kept = append(s.Kept, api.Kept{ID: id, T: row})
		}
		out = append(out, s)
	}
	for k, none := range noTrees() {
		kept := slices.Repeat([][]api.Node{row}, 8)
		kept[k%8] = none
		out = append(out, keep(none, 0, 1), keep(none, 3, 1, row), keep(row, 8, 1, kept...), keep(row, 1, 1, none))
	}
	return out
}

// P16.1: a state with each tree, with nothing kept, some, and as many as may be, with numbers from the first to the last ones, may be.
func TestSane(t *testing.T) {
	for _, s := range states() {
		if !Sane(s) || !may(s) {
			t.Errorf("Sane(%s) is false", tell(s))
		}
	}
	row := grown(3)
	eight := slices.Repeat([][]api.Node{row}, 8)
	for _, s := range []api.State{{}, {Next: 1}, {Next: great}, {T: row}, {T: make([]api.Node, 127)}, keep(nil, 1, 1, nil), keep(row, 8, 1, eight...), keep(row, great, 1, eight...), keep(row, great, great-1, row, row), keep(row, 4, 3, row, row)} {
		if !Sane(s) {
			t.Errorf("Sane(%s) is false", tell(s))
		}
	}
}

// P16.1: what is against one of the things that a state must be is none.
func TestNotSane(t *testing.T) {
	for _, s := range noStates() {
		if Sane(s) || may(s) {
			t.Errorf("Sane(%s) is true", tell(s))
		}
	}
}

// Words, P16.1: each edge of Next, and of the numbers that trees are kept by, on both sides.
func TestEdges(t *testing.T) {
	for next, sane := range map[int]bool{math.MinInt: false, -1: false, 0: false, 6: false, 7: true, 8: true, great - 1: true, great: true, great + 1: false, math.MaxInt: false} {
		if s := (api.State{Next: next, Kept: []api.Kept{{ID: 2}, {ID: 7}}}); Sane(s) != sane {
			t.Errorf("Sane(%s) = %t", tell(s), !sane)
		}
		if s := (api.State{Next: next}); Sane(s) != (next >= 0 && next <= great) {
			t.Errorf("Sane(%s) = %t", tell(s), next < 0 || next > great)
		}
	}
	for id, sane := range map[int]bool{math.MinInt: false, -1: false, 0: false, 1: true, 2: true, 3: false, 4: false, great: false} {
		if s := (api.State{Next: great, Kept: []api.Kept{{ID: id}, {ID: 3}}}); Sane(s) != sane {
			t.Errorf("Sane(%s) = %t", tell(s), !sane)
		}
	}
	for n := range 20 {
		if s := keep(nil, 20, 1, make([][]api.Node, n)...); Sane(s) != (n <= 8) {
			t.Errorf("Sane(%s) = %t", tell(s), n > 8)
		}
	}
}

// checkDo tests what Do tells, and the state behind it, which may be, and is what it was (or the empty one, where it might not be), where there is an error, or a question.
func checkDo(t *testing.T, s api.State, o api.Op) (api.State, api.Answer) {
	t.Helper()
	u, a := Do(s, o)
	next, told := want(s, o)
	if !sameState(u, next) || !sameAnswer(a, told) {
		t.Errorf("Do(%s, %s) = %s, %v, want %s, %v", tell(s), tellOp(o), tell(u), a, tell(next), told)
	}
	was := s
	if !may(s) {
		was = api.State{}
	}
	if a.E != api.OK && !sameAnswer(a, api.Answer{E: a.E}) || !Sane(u) {
		t.Errorf("Do(%s, %s) = %s, %v", tell(s), tellOp(o), tell(u), a)
	}
	if (a.E != api.OK || o.What >= api.OpResolve) && !sameState(u, was) {
		t.Errorf("Do(%s, %s): %v, and the state becomes %s", tell(s), tellOp(o), a, tell(u))
	}
	return u, a
}

// numbers are those of the nodes, the leaves and the kept trees of a state, or some of them, and others around them.
func numbers(s api.State) []int {
	w := len(s.T)
	out := []int{-1, 0, 1, 2, w / 4, (w - 1) / 2, w / 2, (w + 1) / 2, w - 1, w, w + 1}
	for _, k := range s.Kept {
		out = append(out, k.ID-1, k.ID, k.ID+1, len(k.T)/2, len(k.T)-1)
	}
	slices.Sort(out)
	return slices.Compact(out)
}

// said are leaves, keys and octets that an operation on a leaf of a state may be given: such as it asks for, and others.
func said(s api.State, what, i, k int) []api.Op {
	good := planned(s.T, i, k)
	switch what {
	case 1:
		good = api.Op{L: leafOf(k, 1)}
	case 3:
		good = api.Op{L: leafOf(k, 2)}
	}
	good.B = octets.Put(s.T)
	return []api.Op{good, {L: leafOf(k, 1), Keys: [][]byte{{1}}, B: []byte{0}}, {}}
}

// P16.1, P16.3: each operation, and some that are none, of each state, with each number, of the tree and of those that were kept.
func TestDo(t *testing.T) {
	for k, s := range states() {
		all := numbers(s)
		for what := -1; what <= 17; what++ {
			for at, i := range append(all, far[k%len(far)]) {
				olds := all
				if what < api.OpResolve {
					// Of these nothing hangs on it.
					olds = all[at%len(all):][:1]
				}
				if what >= api.OpVerify && at%8 != 0 {
					// Of these nothing hangs on the number.
					continue
				}
				given := said(s, what, i, k)
				if what >= api.OpResolve {
					// Of questions nothing hangs on what else is given.
					given = given[:1]
				}
				for _, o := range given {
					for _, old := range olds {
						o.What, o.I, o.Old = what, i, old
						checkDo(t, s, o)
					}
				}
			}
		}
	}
}

// P16.1, P1: numbers that are no node, no leaf, no tree that is kept, and no operation.
func TestFar(t *testing.T) {
	for k, s := range states() {
		if k%3 != 0 {
			continue
		}
		for _, i := range far {
			for what := 1; what <= 15; what++ {
				checkDo(t, s, api.Op{What: what, I: i, L: leafOf(1, 2)})
				checkDo(t, s, api.Op{What: what, Old: i, L: leafOf(1, 1)})
			}
			if u, a := checkDo(t, s, api.Op{What: i, I: i, Old: i}); a.E != api.ErrArg || !sameState(u, s) {
				t.Errorf("Do(%s, what %d) = %s, %v", tell(s), i, tell(u), a)
			}
		}
	}
}

// R5: what may not be counts as api.State{}, whatever is done; with an error that is the state.
func TestNoStates(t *testing.T) {
	row := grown(3)
	ops := []api.Op{{What: 1, L: leafOf(9, 1)}, {What: 1, L: leafOf(9, 2)}, {What: 8, B: octets.Put(row)}, {What: 8}, {What: 99}}
	for what := 2; what <= 16; what++ {
		for _, i := range []int{0, 1, 2} {
			ops = append(ops, api.Op{What: what, I: i, L: leafOf(9, 2), Old: i / 2})
		}
	}
	for _, s := range noStates() {
		for _, o := range ops {
			u, a := checkDo(t, s, o)
			v, b := Do(api.State{}, o)
			if !sameState(u, v) || !sameAnswer(a, b) || a.E != api.OK && !sameState(u, api.State{}) {
				t.Errorf("Do(%s, %s) = %s, %v, want %s, %v", tell(s), tellOp(o), tell(u), a, tell(v), b)
			}
		}
		if u, a := Do(s, api.Op{What: 5}); a.E != api.OK || a.N != 1 || !sameState(u, api.State{Kept: []api.Kept{{ID: 1}}, Next: 1}) {
			t.Errorf("Do(%s, snap) = %s, %v", tell(s), tell(u), a)
		}
	}
}

// simple are three leaves, that have a key of one octet each and nobody's name, in a tree of four.
func simple() []api.Node {
	row := make([]api.Node, 7)
	for i := range 3 {
		row[2*i] = api.Node{Kind: 1, Leaf: api.Leaf{Enc: []byte{byte(i + 1)}, Source: 1}}
	}
	return row
}

// sum are thirty-two octets, by the library.
func sum(parts ...[]byte) []byte {
	s := sha256.Sum256(slices.Concat(parts...))
	return s[:]
}

// P16.1: what each question tells of a tree, and of one that was kept, written out by hand.
func TestQuestions(t *testing.T) {
	one := []api.Node{{Kind: 1, Leaf: api.Leaf{Enc: []byte{9}, Source: 1}}}
	root := []api.Node{one[0], {Kind: 2, Inner: api.Inner{Enc: []byte{5}, Unmerged: []int{1}}}, one[0]}
	s := api.State{T: simple(), Kept: []api.Kept{{ID: 3, T: one}, {ID: 4}, {ID: 8, T: root}}, Next: 11}
	node4 := sum([]byte{1, 0, 0, 0, 2, 1, 1, 3, 0, 1})
	node6 := sum([]byte{1, 0, 0, 0, 3, 0})
	node5 := sum([]byte{2, 0, 32}, node4, []byte{32}, node6)
	for k, x := range []struct {
		what, i, old int
		told         api.Answer
	}{
		{9, 3, 0, api.Answer{L: []int{0, 2, 4}}}, {9, 1, 0, api.Answer{L: []int{0, 2}}}, {9, 5, 0, api.Answer{L: []int{4}}}, {9, 6, 0, api.Answer{}}, {9, 4, 0, api.Answer{L: []int{4}}}, {9, 7, 0, api.Answer{E: 3}}, {9, -1, 0, api.Answer{E: 3}},
		{9, 0, 3, api.Answer{L: []int{0}}}, {9, 1, 3, api.Answer{E: 3}}, {9, 0, 4, api.Answer{E: 3}}, {9, 1, 8, api.Answer{L: []int{1, 2}}}, {9, 2, 8, api.Answer{L: []int{2}}}, {9, 3, 8, api.Answer{E: 3}}, {9, 0, 1, api.Answer{E: 13}},
		{10, 0, 0, api.Answer{L: []int{1, 3}}}, {10, 2, 0, api.Answer{L: []int{3}}}, {10, 3, 0, api.Answer{L: []int{5, 3}}}, {10, 4, 0, api.Answer{E: 3}}, {10, -1, 0, api.Answer{E: 3}}, {10, 0, 3, api.Answer{}}, {10, 1, 3, api.Answer{E: 3}}, {10, 1, 8, api.Answer{L: []int{1}}}, {10, 0, 4, api.Answer{E: 3}}, {10, 0, 9, api.Answer{E: 13}},
		{11, 0, 0, api.Answer{L: []int{2, 5}}}, {11, 3, 0, api.Answer{L: []int{4, 1}}}, {11, 4, 0, api.Answer{E: 3}}, {11, -1, 0, api.Answer{E: 3}}, {11, 0, 3, api.Answer{}}, {11, 1, 3, api.Answer{E: 3}}, {11, 1, 8, api.Answer{L: []int{0}}}, {11, 0, 4, api.Answer{E: 3}}, {11, 9, 2, api.Answer{E: 13}},
		{12, 4, 0, api.Answer{B: node4}}, {12, 6, 0, api.Answer{B: node6}}, {12, 5, 0, api.Answer{B: node5}}, {12, 7, 0, api.Answer{E: 3}}, {12, -1, 0, api.Answer{E: 3}}, {12, 0, 3, api.Answer{B: sum([]byte{1, 0, 0, 0, 0, 1, 1, 9, 0, 1})}}, {12, 1, 3, api.Answer{E: 3}}, {12, 0, 4, api.Answer{E: 3}}, {12, 3, -3, api.Answer{E: 13}},
		{13, 0, 0, api.Answer{Is: true}}, {13, 99, 0, api.Answer{Is: true}}, {13, 0, 3, api.Answer{Is: true}}, {13, 0, 4, api.Answer{Is: true}}, {13, 0, 8, api.Answer{}}, {13, 0, 11, api.Answer{E: 13}}, {13, 0, 5, api.Answer{E: 13}},
		{14, 0, 0, api.Answer{B: []byte{20, 1, 1, 1, 1, 0, 1, 0, 1, 1, 1, 2, 0, 1, 0, 1, 1, 1, 3, 0, 1}}}, {14, -9, 3, api.Answer{B: []byte{6, 1, 1, 1, 9, 0, 1}}}, {14, 0, 4, api.Answer{B: []byte{0}}}, {14, 0, 12, api.Answer{E: 13}},
		{15, 0, 0, api.Answer{N: 3, L: []int{4}}}, {15, 99, 3, api.Answer{N: 1, L: []int{1}}}, {15, 0, 4, api.Answer{L: []int{0}}}, {15, 0, 8, api.Answer{N: 2, L: []int{2}}}, {15, 0, math.MinInt, api.Answer{E: 13}},
		{16, 0, 0, api.Answer{E: 14}}, {0, 0, 0, api.Answer{E: 14}}, {-1, 0, 9, api.Answer{E: 14}}, {16, -1, 9, api.Answer{E: 14}},
	} {
		o := api.Op{What: x.what, I: x.i, Old: x.old}
		if u, a := checkDo(t, s, o); !sameAnswer(a, x.told) || !sameState(u, s) {
			t.Errorf("%d: %s tells %v, want %v", k, tellOp(o), a, x.told)
		}
	}
}

// P16.1: what each operation that is no question tells, and the state behind it, written out by hand, one behind the other.
func TestDeeds(t *testing.T) {
	a, b, c := api.Node{Kind: 1, Leaf: leafOf(1, 1)}, api.Node{Kind: 1, Leaf: leafOf(2, 1)}, api.Node{Kind: 1, Leaf: leafOf(3, 1)}
	changed, blank := api.Node{Kind: 1, Leaf: leafOf(4, 2)}, api.Node{}
	up := planned([]api.Node{a, blank, changed}, 0, 6)
	top := api.Node{Kind: 2, Inner: api.Inner{Enc: up.Keys[0]}}
	climber := api.Node{Kind: 1, Leaf: up.L}
	two := []api.Node{a, blank, b}
	kept := func(ids ...int) []api.Kept {
		var out []api.Kept
		for _, id := range ids {
			out = append(out, api.Kept{ID: id, T: map[int][]api.Node{1: nil, 2: two, 3: {a, blank, changed}}[id]})
		}
		return out
	}
	var s api.State
	for k, x := range []struct {
		o    api.Op
		n    int
		t    []api.Node
		kept []api.Kept
		next int
	}{
		{api.Op{What: 5}, 1, nil, kept(1), 1},
		{api.Op{What: 1, L: a.Leaf}, 0, []api.Node{a}, kept(1), 1},
		{api.Op{What: 1, L: b.Leaf, I: 7, Old: 9}, 1, two, kept(1), 1},
		{api.Op{What: 5, I: 7, Old: 9}, 2, two, kept(1, 2), 2},
		{api.Op{What: 3, I: 1, L: changed.Leaf}, 0, []api.Node{a, blank, changed}, kept(1, 2), 2},
		{api.Op{What: 5}, 3, []api.Node{a, blank, changed}, kept(1, 2, 3), 3},
		{up, 0, []api.Node{climber, top, changed}, kept(1, 2, 3), 3},
		{api.Op{What: 1, L: c.Leaf}, 2, []api.Node{climber, top, changed, blank, c, blank, blank}, kept(1, 2, 3), 3},
		{api.Op{What: 7, I: 2}, 0, []api.Node{climber, top, changed, blank, c, blank, blank}, kept(1, 3), 3},
		{api.Op{What: 2, I: 1}, 0, []api.Node{climber, blank, blank, blank, c, blank, blank}, kept(1, 3), 3},
		{api.Op{What: 2, I: 2, Old: 9}, 0, []api.Node{climber}, kept(1, 3), 3},
		{api.Op{What: 6, I: 3}, 0, []api.Node{a, blank, changed}, kept(1, 3), 3},
		{api.Op{What: 7, I: 3}, 0, []api.Node{a, blank, changed}, kept(1), 3},
		{api.Op{What: 8, B: octets.Put(two), I: 9, Old: 9}, 0, two, kept(1), 3},
		{api.Op{What: 6, I: 1}, 0, nil, kept(1), 3},
		{api.Op{What: 7, I: 1}, 0, nil, nil, 3},
		{api.Op{What: 8, B: []byte{6, 1, 1, 1, 9, 0, 1}}, 0, []api.Node{{Kind: 1, Leaf: api.Leaf{Enc: []byte{9}, Source: 1}}}, nil, 3},
	} {
		u, told := checkDo(t, s, x.o)
		if !sameAnswer(told, api.Answer{N: x.n}) || !sameState(u, api.State{T: x.t, Kept: x.kept, Next: x.next}) {
			t.Fatalf("%d: %s tells %v, behind it is %s", k, tellOp(x.o), told, tell(u))
		}
		s = u
	}
}

// P16.1, P16.3: each error of each operation that is no question: all else of the answer is nothing, and the state is as it was.
func TestErrors(t *testing.T) {
	row, _ := edit.Remove(climbed(grown(4), 0, 1), 2)
	long := make([]byte, 201)
	s := keep(row, 9, 3, row, nil)
	full := keep(grown(64), 8, 1, make([][]api.Node, 8)...)
	end := keep(row, great, 1, row)
	up := planned(row, 3, 2)
	but := func(changes func(o *api.Op)) api.Op {
		o := up
		changes(&o)
		return o
	}
	for k, x := range []struct {
		s api.State
		o api.Op
		e api.Errno
	}{
		{s, api.Op{What: 1}, 5}, {s, api.Op{What: 1, L: api.Leaf{Enc: long, Source: 1}}, 4}, {s, api.Op{What: 1, L: leafOf(1, 2)}, 7}, {s, api.Op{What: 1, L: leafOf(1, 3)}, 7}, {s, api.Op{What: 1, L: api.Leaf{Enc: []byte{1}, Source: 1, Parent: []byte{1}}}, 2}, {full, api.Op{What: 1, L: leafOf(1, 1)}, 10},
		{s, api.Op{What: 2, I: 4}, 3}, {s, api.Op{What: 2, I: -1}, 3}, {s, api.Op{What: 2, I: 2}, 9}, {api.State{}, api.Op{What: 2}, 3},
		{s, api.Op{What: 3, I: 4, L: leafOf(1, 2)}, 3}, {s, api.Op{What: 3, I: 2, L: leafOf(1, 2)}, 9}, {s, api.Op{What: 3}, 5}, {s, api.Op{What: 3, L: leafOf(1, 1)}, 7}, {s, api.Op{What: 3, L: leafOf(1, 3)}, 7},
		{s, but(func(o *api.Op) { o.I = 4 }), 3}, {s, but(func(o *api.Op) { o.I = 2 }), 9}, {s, but(func(o *api.Op) { o.L = api.Leaf{} }), 5}, {s, but(func(o *api.Op) { o.L = leafOf(1, 2) }), 7}, {s, but(func(o *api.Op) { o.Keys = nil }), 11}, {s, but(func(o *api.Op) { o.Keys = append(o.Keys[:1:1], nil) }), 11}, {s, but(func(o *api.Op) { o.Keys = [][]byte{nil} }), 5}, {s, but(func(o *api.Op) { o.Keys = [][]byte{long} }), 4}, {s, but(func(o *api.Op) { o.L.Parent = nil }), 12}, {s, but(func(o *api.Op) { o.Keys = [][]byte{{1}} }), 12}, {s, but(func(o *api.Op) { o.I = 0 }), 11},
		{full, api.Op{What: 5}, 10}, {end, api.Op{What: 5}, 10}, {keep(nil, great, 1, make([][]api.Node, 8)...), api.Op{What: 5}, 10}, {api.State{Next: great}, api.Op{What: 5}, 10},
		{s, api.Op{What: 6}, 13}, {s, api.Op{What: 6, I: 2}, 13}, {s, api.Op{What: 6, I: 5}, 13}, {s, api.Op{What: 6, I: 9}, 13}, {s, api.Op{What: 6, I: -1}, 13}, {s, api.Op{What: 6, I: 0, Old: 1}, 13}, {api.State{}, api.Op{What: 6, I: 1}, 13},
		{s, api.Op{What: 7}, 13}, {s, api.Op{What: 7, I: 2}, 13}, {s, api.Op{What: 7, I: 5}, 13}, {s, api.Op{What: 7, I: 9}, 13}, {s, api.Op{What: 7, I: -4}, 13}, {s, api.Op{What: 7, I: 0, Old: 4}, 13}, {api.State{Next: 1}, api.Op{What: 7, I: 1}, 13},
		{s, api.Op{What: 8}, 1}, {s, api.Op{What: 8, B: []byte{2, 1}}, 1}, {s, api.Op{What: 8, B: []byte{6, 1, 1, 1, 9, 0, 1, 0}}, 2}, {s, api.Op{What: 8, B: []byte{0}}, 5}, {s, api.Op{What: 8, B: []byte{7, 1, 1, 1, 9, 0, 1, 0}}, 6}, {s, api.Op{What: 8, B: []byte{5, 1, 2, 0, 0, 0}}, 5}, {s, api.Op{What: 8, B: []byte{12, 1, 1, 1, 9, 0, 1, 1, 1, 1, 9, 0, 1}}, 7}, {s, api.Op{What: 8, B: []byte{17, 1, 1, 1, 9, 0, 1, 1, 2, 1, 7, 0, 4, 0, 0, 0, 1, 0}}, 6}, {s, api.Op{What: 8, B: []byte{22, 1, 1, 1, 9, 0, 1, 1, 2, 1, 7, 0, 4, 0, 0, 0, 2, 1, 1, 1, 9, 0, 1}}, 8}, {s, api.Op{What: 8, B: append([]byte{64, 128}, make([]byte, 128)...)}, 10},
		{s, api.Op{}, 14}, {s, api.Op{What: 16}, 14}, {s, api.Op{What: -5, L: leafOf(1, 1)}, 14}, {s, api.Op{What: 16, Old: 99}, 14}, {full, api.Op{What: 0, I: -1, Old: -1}, 14},
	} {
		if u, a := checkDo(t, x.s, x.o); !sameAnswer(a, api.Answer{E: x.e}) || !sameState(u, x.s) {
			t.Errorf("%d: %s tells %v, want error %d; behind it is %s", k, tellOp(x.o), a, x.e, tell(u))
		}
	}
	if _, a := checkDo(t, s, up); a.E != api.OK {
		t.Errorf("what is right tells %v", a)
	}
}

// P16.1: eight trees are kept, by the numbers from 1 on, and no more; once one is forgotten, whichever it was, another one is, by the next number, and none is given twice.
func TestSnaps(t *testing.T) {
	for gone := 1; gone <= 8; gone++ {
		var s api.State
		for id := 1; id <= 8; id++ {
			u, a := checkDo(t, s, api.Op{What: api.OpSnap})
			if a.E != api.OK || a.N != id || u.Next != id || len(u.Kept) != id || u.Kept[id-1].ID != id || !same(u.Kept[id-1].T, s.T) {
				t.Fatalf("%v, %s", a, tell(u))
			}
			s, _ = checkDo(t, u, api.Op{What: api.OpAdd, L: leafOf(id-1, 1)})
		}
		if u, a := checkDo(t, s, api.Op{What: api.OpSnap}); a.E != api.ErrFull || !sameState(u, s) {
			t.Errorf("%v, %s", a, tell(u))
		}
		less, a := checkDo(t, s, api.Op{What: api.OpForget, I: gone})
		if !sameAnswer(a, api.Answer{}) || less.Next != 8 || len(less.Kept) != 7 || !same(less.T, s.T) {
			t.Errorf("%v, %s", a, tell(less))
		}
		if _, a := checkDo(t, less, api.Op{What: api.OpForget, I: gone}); a.E != api.ErrNone {
			t.Errorf("%d is forgotten twice: %v", gone, a)
		}
		u, a := checkDo(t, less, api.Op{What: api.OpSnap})
		if a.N != 9 || u.Next != 9 || len(u.Kept) != 8 || u.Kept[7].ID != 9 {
			t.Errorf("%v, %s", a, tell(u))
		}
		for id := range 11 {
			v, a := checkDo(t, u, api.Op{What: api.OpRestore, I: id})
			switch {
			case id == 0 || id == gone || id == 10:
				if a.E != api.ErrNone {
					t.Errorf("%d is kept: %v", id, a)
				}
			case !sameAnswer(a, api.Answer{}) || !same(v.T, grown(id-1)):
				t.Errorf("%d: %v, %s", id, a, tell(v))
			}
		}
	}
}

// P16.1: the last number that there is is given, and none behind it, also where all but that was forgotten.
func TestLastNumber(t *testing.T) {
	s := api.State{T: grown(2), Next: great - 1}
	u, a := checkDo(t, s, api.Op{What: api.OpSnap})
	if a.N != great || u.Next != great || u.Kept[0].ID != great || !Sane(u) {
		t.Fatalf("%v, %s", a, tell(u))
	}
	for _, v := range []api.State{u, {T: u.T, Next: great}} {
		if w, a := checkDo(t, v, api.Op{What: api.OpSnap}); !sameAnswer(a, api.Answer{E: api.ErrFull}) || !sameState(w, v) {
			t.Errorf("%v, %s", a, tell(w))
		}
	}
	v, a := checkDo(t, u, api.Op{What: api.OpForget, I: great})
	if w, b := checkDo(t, v, api.Op{What: api.OpSnap}); a.E != api.OK || b.E != api.ErrFull || !sameState(w, api.State{T: s.T, Next: great}) {
		t.Errorf("%v, %v, %s", a, b, tell(w))
	}
}

// The chapter's example: add, add, remove 0, count: N 0, N 1, nothing, N 1 of 2.
func TestExample(t *testing.T) {
	l := []api.Op{{What: api.OpAdd, L: leafOf(1, 1)}, {What: api.OpAdd, L: leafOf(2, 1)}, {What: api.OpRemove, I: 0}, {What: api.OpCount}}
	if got := Run(l); !sameAnswers(got, []api.Answer{{N: 0}, {N: 1}, {}, {N: 1, L: []int{2}}}) {
		t.Errorf("Run = %v", got)
	}
	if s := Behind(l); !sameState(s, api.State{T: []api.Node{{}, {}, {Kind: 1, Leaf: leafOf(2, 1)}}}) {
		t.Errorf("Behind = %s", tell(s))
	}
}

// checkRun tests what Run and Behind tell of a script, and of all that it begins with, and tells the answers.
func checkRun(t *testing.T, l []api.Op) []api.Answer {
	t.Helper()
	var s api.State
	told := make([]api.Answer, len(l))
	for k, o := range l {
		s, told[k] = want(s, o)
		if k%16 == 3 {
			if got, u := Run(l[:k+1]), Behind(l[:k+1]); !sameAnswers(got, told[:k+1]) || !sameState(u, s) {
				t.Errorf("of %d operations: %v, want %v; %s, want %s", k+1, got, told[:k+1], tell(u), tell(s))
			}
		}
	}
	got, u := Run(l), Behind(l)
	if !sameAnswers(got, told) || !sameState(u, s) || !Sane(u) {
		t.Errorf("of %d operations: %v, want %v; %s, want %s", len(l), got, told, tell(u), tell(s))
	}
	return got
}

// P16.2: of no operation nothing is told, and behind none is api.State{}.
func TestEmptyScript(t *testing.T) {
	for _, l := range [][]api.Op{nil, {}} {
		if got, s := Run(l), Behind(l); len(got) != 0 || !sameState(s, api.State{}) {
			t.Errorf("%v, %s", got, tell(s))
		}
	}
	if got := Run(make([]api.Op, 5)); !sameAnswers(got, slices.Repeat([]api.Answer{{E: api.ErrArg}}, 5)) {
		t.Errorf("%v", got)
	}
}

// chooser tells numbers below those that it is given, others for each seed.
func chooser(seed int) func(n int) int {
	state := uint64(seed)*2862933555777941757 + 3037000493
	return func(n int) int {
		state = state*6364136223846793005 + 1442695040888963407
		return int(state>>33) % n
	}
}

// chosen is an operation that may be done to a state, or may not, as pick tells it. Wide ones grow more than they shrink.
func chosen(s api.State, wide bool, pick func(n int) int) api.Op {
	leaves := shape.Leaves(s.T)
	i, k := pick(leaves+2)-1, pick(1000)
	what := pick(19) - 1
	if wide && pick(3) > 0 || leaves == 0 {
		what = api.OpAdd
	}
	if what == api.OpForget && pick(3) > 0 {
		// Else there would never be as many as may be kept.
		what = api.OpSnap
	}
	id := pick(s.Next + 2)
	if len(s.Kept) > 0 && pick(4) > 0 {
		id = s.Kept[pick(len(s.Kept))].ID
	}
	o := api.Op{What: what, I: i}
	switch what {
	case api.OpAdd, api.OpChange:
		o.L = leafOf(k, max(1, what-1))
		o.L.Source += pick(9) / 8
	case api.OpCommit:
		o = planned(s.T, i, k)
		if pick(6) == 0 {
			o.L.Parent = []byte{byte(k)}
		}
	case api.OpRestore, api.OpForget:
		o.I = id
	case api.OpParse:
		o.B = octets.Put(s.T)
		for _, kept := range s.Kept {
			if kept.ID == id {
				o.B = octets.Put(kept.T)
			}
		}
		if pick(3) == 0 {
			o.B[pick(len(o.B))] += byte(k)
		}
	case api.OpResolve, api.OpHash:
		o.I = pick(len(s.T)+2) - 1
	}
	if pick(2) == 0 {
		o.Old = id
	}
	return o
}

// script is one of so many operations, others for each seed.
func script(seed, n int) []api.Op {
	var s api.State
	pick := chooser(seed)
	l := make([]api.Op, n)
	for k := range l {
		l[k] = chosen(s, seed%3 != 0, pick)
		s, _ = want(s, l[k])
	}
	return l
}

// P16.2, P16.3: what longer scripts tell, step by step; all that can be told comes up among them, and many operations fail.
func TestScripts(t *testing.T) {
	came := map[string]int{}
	wide := 0
	for seed := range 24 {
		l := script(seed, 200)
		told := checkRun(t, l)
		var s api.State
		for k, o := range l {
			s, _ = checkDo(t, s, o)
			wide = max(wide, len(s.T))
			came[strconv.Itoa(o.What)+" "+strconv.FormatBool(told[k].E == api.OK)]++
		}
	}
	for what := 1; what <= 15; what++ {
		// Of these nothing but room, or an Old that is kept, may be wrong.
		if came[strconv.Itoa(what)+" true"] < 9 || came[strconv.Itoa(what)+" false"] < 1 {
			t.Errorf("operations %d: %v", what, came)
		}
	}
	if wide != 127 {
		t.Errorf("no wider than %d", wide)
	}
}

// P16.3: what fails changes nothing, and questions change nothing: a script without these tells the same, and leads to the same.
func TestWithout(t *testing.T) {
	for seed := range 12 {
		l := script(seed, 200)
		told := checkRun(t, l)
		var rest []api.Op
		var left []api.Answer
		for k, o := range l {
			if told[k].E == api.OK && o.What < api.OpResolve {
				rest, left = append(rest, o), append(left, told[k])
			}
		}
		if got := checkRun(t, rest); !sameAnswers(got, left) || !sameState(Behind(rest), Behind(l)) || len(rest) == len(l) {
			t.Errorf("%v, want %v", got, left)
		}
	}
}

// questionsOf are all that may be asked of a tree of so many nodes, and some that may not.
func questionsOf(w, old int) []api.Op {
	var out []api.Op
	for what := api.OpResolve; what <= api.OpCount; what++ {
		for x := -1; x <= w; x++ {
			out = append(out, api.Op{What: what, I: x, Old: old})
		}
	}
	return out
}

// answersTo is what a state tells of questions.
func answersTo(s api.State, l []api.Op) []api.Answer {
	var out []api.Answer
	for _, o := range l {
		_, a := Do(s, o)
		out = append(out, a)
	}
	return out
}

// W3, P16.3: a tree that is kept stays as it was, whatever is done: it tells what it told, by its number, and once it is taken again; then it goes on as if nothing had been.
func TestKeptStays(t *testing.T) {
	for seed := range 9 {
		head := script(seed, 60)
		tail := slices.DeleteFunc(script(seed+100, 80), func(o api.Op) bool {
			// Which trees are kept is another thing.
			return o.What >= api.OpSnap && o.What <= api.OpForget || o.Old != 0
		})
		s := Behind(head)
		for len(s.Kept) > 4 {
			s, _ = checkDo(t, s, api.Op{What: api.OpForget, I: s.Kept[0].ID})
		}
		kept, a := checkDo(t, s, api.Op{What: api.OpSnap})
		was := answersTo(kept, questionsOf(len(s.T), 0))
		goes := s
		var went []api.Answer
		for _, o := range tail {
			var a api.Answer
			goes, a = Do(goes, o)
			went = append(went, a)
		}
		later := kept
		for k, o := range script(seed+50, 60) {
			if o.What == api.OpForget && o.I == a.N {
				continue
			}
			later, _ = checkDo(t, later, o)
			if k%20 == 19 && !sameAnswers(answersTo(later, questionsOf(len(s.T), a.N)), was) {
				t.Errorf("%s tells something else of %d", tell(later), a.N)
			}
		}
		back, b := checkDo(t, later, api.Op{What: api.OpRestore, I: a.N})
		if b.E != api.OK || !same(back.T, s.T) || !sameAnswers(answersTo(back, questionsOf(len(s.T), 0)), was) {
			t.Fatalf("%v, %s, want %s", b, tell(back), tell(s))
		}
		for k, o := range tail {
			var a api.Answer
			if back, a = Do(back, o); !sameAnswer(a, went[k]) {
				t.Errorf("%s tells %v, want %v", tellOp(o), a, went[k])
			}
		}
		if !same(back.T, goes.T) {
			t.Errorf("%s, want %s", tell(back), tell(goes))
		}
	}
}

// roomy is a value that is the same as the one that is given, in other memory, with something behind each of its lists, and what tells whether all of that is as it was.
func roomy[V any](given V) (V, func() bool) {
	own := spread(reflect.ValueOf(given))
	was := whole(own)
	return own.Interface().(V), func() bool { return whole(own) == was }
}

// spread is such a value.
func spread(v reflect.Value) reflect.Value {
	out := reflect.New(v.Type()).Elem()
	switch v.Kind() {
	case reflect.Struct:
		for k := range v.NumField() {
			out.Field(k).Set(spread(v.Field(k)))
		}
	case reflect.Slice:
		n := v.Len()
		out.Set(reflect.MakeSlice(v.Type(), n+3, n+3))
		for k := range n {
			out.Index(k).Set(spread(v.Index(k)))
		}
		for k := n; k < n+3; k++ {
			mark(out.Index(k))
		}
		out.SetLen(n)
	default:
		out.Set(v)
	}
	return out
}

// mark makes something of a value that nobody would write.
func mark(v reflect.Value) {
	switch v.Kind() {
	case reflect.Struct:
		for k := range v.NumField() {
			mark(v.Field(k))
		}
	case reflect.Int:
		v.SetInt(-77)
	case reflect.Uint8:
		v.SetUint(77)
	}
}

// whole tells a value, with what is behind its lists.
func whole(v reflect.Value) string {
	var b strings.Builder
	var lay func(v reflect.Value)
	lay = func(v reflect.Value) {
		switch v.Kind() {
		case reflect.Struct:
			for k := range v.NumField() {
				lay(v.Field(k))
			}
		case reflect.Slice:
			b.WriteString("[" + strconv.Itoa(v.Len()) + ":")
			for k := range v.Cap() {
				lay(v.Slice(0, v.Cap()).Index(k))
			}
			b.WriteByte(']')
		case reflect.Uint8:
			b.WriteString(strconv.Itoa(int(v.Uint())) + " ")
		default:
			b.WriteString(strconv.Itoa(int(v.Int())) + " ")
		}
	}
	lay(v)
	return b.String()
}

// R3, R6: no call changes the state, the operation or the script that it is given, nor what lies behind them in their memory.
func TestUntouched(t *testing.T) {
	row := climbed(grown(7), 2, 1)
	late, _, _ := edit.Add(row, leafOf(7, 1))
	others := [][]api.Node{grown(5), nil, climbed(grown(2), 1, 1), late}
	for _, given := range []api.State{{}, {T: row}, keep(late, 20, 3, others...), keep(row, 8, 1, slices.Concat(others, others)...), keep(nil, great, 1, row), keep(row, 3, 1, slices.Concat(others, others)...), keep(row[:5], 9, 2, row), {Next: -1}, keep(row, 9, 0, others...)} {
		var all []api.Op
		for what := -1; what <= 16; what++ {
			for _, i := range []int{-1, 0, 1, 4, 7, 16} {
				for _, o := range said(given, what, i, what) {
					o.What, o.I, o.Old = what, i, (i+what)%5
					all = append(all, o)
				}
			}
		}
		s, intact := roomy(given)
		for k, one := range all {
			o, unmoved := roomy(one)
			checkDo(t, s, o)
			Sane(s)
			if !intact() || !unmoved() {
				t.Fatalf("Do(%s, %s) changes what it is given: %s", tell(given), tellOp(all[k]), tell(s))
			}
		}
		l, unmoved := roomy(all)
		Run(l)
		Behind(l)
		if !unmoved() {
			t.Error("a script is changed")
		}
	}
	for seed := range 6 {
		l, unmoved := roomy(script(seed, 120))
		checkRun(t, l)
		if !unmoved() {
			t.Error("a script is changed")
		}
	}
}

// R6: a state that was answered stays as it was, whatever is made of it, or of the one that it was made of; so does an answer.
func TestAnswersStay(t *testing.T) {
	for seed := range 6 {
		l := script(seed, 150)
		states := []api.State{{}}
		var told []api.Answer
		var was []string
		for k, o := range l {
			from := states[k]
			if k%7 == 6 {
				// Also from states further back, from which others have been made.
				from = states[k-3]
			}
			s, a := Do(from, o)
			states, told = append(states, s), append(told, a)
			was = append(was, whole(reflect.ValueOf(s))+whole(reflect.ValueOf(a.L))+whole(reflect.ValueOf(a.B)))
		}
		for k := range l {
			s, a := states[k+1], told[k]
			if whole(reflect.ValueOf(s))+whole(reflect.ValueOf(a.L))+whole(reflect.ValueOf(a.B)) != was[k] {
				t.Errorf("%d: %s, %v is another one now", k, tell(s), a)
			}
		}
	}
}

// R3: of one state two are made by the same operation: neither shows in the other one.
func TestForks(t *testing.T) {
	for _, given := range states() {
		s, _ := roomy(given)
		a, _ := Do(s, api.Op{What: api.OpSnap})
		other, _ := Do(s, api.Op{What: api.OpRestore, I: 1})
		other, _ = Do(other, api.Op{What: api.OpAdd, L: leafOf(500, 1)})
		b, _ := Do(other, api.Op{What: api.OpSnap})
		if n := len(given.Kept); n < len(a.Kept) && n < len(b.Kept) {
			if !same(a.Kept[n].T, given.T) || !same(b.Kept[n].T, other.T) {
				t.Errorf("%s and %s, of %s", tell(a), tell(b), tell(given))
			}
		}
		if len(given.Kept) > 2 {
			first, _ := Do(s, api.Op{What: api.OpForget, I: given.Kept[0].ID})
			last, _ := Do(s, api.Op{What: api.OpForget, I: given.Kept[2].ID})
			if !same(first.Kept[0].T, given.Kept[1].T) || first.Kept[1].ID != given.Kept[2].ID || last.Kept[0].ID != given.Kept[0].ID || last.Kept[1].ID != given.Kept[1].ID || !sameState(s, given) {
				t.Errorf("%s and %s, of %s", tell(first), tell(last), tell(given))
			}
		}
	}
}

// What is told hangs on the arguments alone: asked again, with others asked between, the same is told.
func TestAskedAgain(t *testing.T) {
	l := script(5, 150)
	first, s := Run(l), Behind(l)
	for seed := range 3 {
		Run(script(seed+30, 60))
		again, _ := roomy(l)
		if got, u := Run(again), Behind(again); !sameAnswers(got, first) || !sameState(u, s) {
			t.Errorf("%v, then %v", first, got)
		}
	}
}

// P1: also of trees of which all that may be said is said no call takes long; nor where what is given is long.
func TestGreatest(t *testing.T) {
	long := bytes.Repeat([]byte{7}, 200)
	var everybody []int
	for i := range 64 {
		everybody = append(everybody, i)
	}
	row := make([]api.Node, 127)
	for x := range row {
		if row[x] = (api.Node{Kind: 1, Leaf: api.Leaf{Enc: long, Cred: long, Source: 3, Parent: long}}); x%2 != 0 {
			row[x] = api.Node{Kind: 2, Inner: api.Inner{Enc: long, Hash: long, Unmerged: everybody}}
		}
	}
	s := keep(row, 8, 1, slices.Repeat([][]api.Node{row}, 8)...)
	for what := range 17 {
		for _, i := range []int{0, 1, 8, 63, 126} {
			checkDo(t, s, api.Op{What: what, I: i, L: api.Leaf{Enc: long, Source: 2}, Old: 8})
		}
	}
	checkDo(t, s, planned(row, 63, 1))
	if u, a := checkDo(t, api.State{T: make([]api.Node, 1<<20-1)}, api.Op{What: api.OpSnap}); a.N != 1 || len(u.T) != 0 {
		t.Errorf("of 2^20 - 1 nodes: %v", a)
	}
	if u, a := Do(keep(row, 1<<20, 1, make([][]api.Node, 1<<20)...), api.Op{What: api.OpSnap}); a.N != 1 || len(u.Kept) != 1 {
		t.Errorf("of 2^20 kept trees: %v", a)
	}
	if u, a := Do(s, api.Op{What: api.OpCommit, L: leafOf(1, 3), Keys: make([][]byte, 1<<20)}); a.E != api.ErrPath || !sameState(u, s) {
		t.Errorf("with 2^20 keys: %v", a)
	}
	for _, b := range [][]byte{bytes.Repeat([]byte{64}, 1<<22), slices.Concat([]byte{128, 16, 0, 0}, make([]byte, 1<<20)), octets.Put(row)} {
		if u, a := checkDo(t, s, api.Op{What: api.OpParse, B: b}); a.E == api.OK || !sameState(u, s) {
			t.Errorf("of %d octets: %v", len(b), a)
		}
	}
	if got := Run(make([]api.Op, 1<<18)); len(got) != 1<<18 || got[1<<18-1].E != api.ErrArg {
		t.Error("2^18 operations tell something else")
	}
}

// P1, P16.1 to P16.3: what is done step by step, as octets tell it, from the empty state on, is told as the chapter says.
func FuzzScripts(f *testing.F) {
	f.Add([]byte("some of what may be told in a script, one thing behind the other, kept and taken again"), true)
	for seed := range 8 {
		b := make([]byte, 300)
		pick := chooser(seed)
		for k := range b {
			b[k] = byte(pick(256))
		}
		f.Add(b, seed%2 == 0)
	}
	f.Fuzz(func(t *testing.T, b []byte, wide bool) {
		// Longer ones would tell nothing new.
		b = b[:min(len(b), 600)]
		pick := func(n int) int {
			if len(b) == 0 {
				return 0
			}
			k := int(b[0])
			b = b[1:]
			return k % n
		}
		var s api.State
		var l []api.Op
		for len(b) > 0 {
			o := chosen(s, wide, pick)
			s, _ = checkDo(t, s, o)
			l = append(l, o)
		}
		checkRun(t, l)
	})
}

// P1, R5, P16.1: any operation, of states with any numbers, trees or not, is told as the chapter says.
func FuzzDo(f *testing.F) {
	for k, next := range []int{-1, 0, 1, 8, 9, great - 1, great, great + 1, math.MinInt, math.MaxInt} {
		for what := range 17 {
			f.Add(what, k-1, k%3, next, 1, k, k%4, uint8(k*what), []byte("\x06\x01\x01\x01\x09\x00\x01"))
		}
	}
	all := slices.Concat(trees(), noTrees())
	f.Fuzz(func(t *testing.T, what, i, old, next, first, step, n int, tree uint8, b []byte) {
		s := api.State{T: all[int(tree)%len(all)], Next: next}
		for k := range n & 15 {
			s.Kept = append(s.Kept, api.Kept{ID: first + k*step, T: all[(int(tree)*k+k)%len(all)]})
		}
		for _, o := range []api.Op{{What: what}, {What: what & 15}} {
			o.L = api.Leaf{Enc: b, Source: what & 3}
			o.I, o.Keys, o.B, o.Old = i, [][]byte{b}, b, old
			checkDo(t, s, o)
			if may(s) {
				o.Keys, o.L = planned(s.T, i, old).Keys, planned(s.T, i, old).L
				checkDo(t, s, o)
			}
		}
		if Sane(s) != may(s) {
			t.Errorf("Sane(%s) = %t", tell(s), !may(s))
		}
	})
}
