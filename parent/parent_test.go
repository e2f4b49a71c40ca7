package parent

import (
	"bytes"
	"math"
	"slices"
	"strconv"
	"strings"
	"testing"

	"cordwood/api"
)

// The most octets of a field, and the most numbers of Unmerged.
const (
	most    = 200
	mostNum = 64
)

// befores are octets behind which something is put.
var befores = []string{"", "a", "\x00", "\xff\x00\xc0", "\x01a\x00\x00", "sixty-four"}

// rests are octets that stand behind what is got.
var rests = []string{"", "z", "\x00", "\x01p", "\xc0", "\x04\x00\x00\x00\x01", "\xff\xff\xff\xff", "a longer rest"}

// far are numbers that no leaf has, also such as have the lowest octets of one that some leaf has.
var far = []int{-1, -2, -63, -64, mostNum, mostNum + 1, 127, 128, 255, 256, 1 << 16, 1<<16 + 5, 1 << 24, 1<<31 - 1, 1 << 31, 1<<32 - 1, 1 << 32, 1<<32 + 5, -1 << 32, math.MinInt32, math.MinInt, math.MinInt + 5, math.MaxInt - 1, math.MaxInt}

// some are so many octets that are not all the same; first is where they begin.
func some(n, first int) []byte {
	b := make([]byte, n)
	for i := range b {
		b[i] = byte(first + i*7 + i>>8)
	}
	return b
}

// fields are fields of many lengths: at the bounds of what one may have, at those of what its count takes, and without an octet in both ways.
func fields(first int) [][]byte {
	out := [][]byte{nil}
	for _, n := range []int{0, 1, 2, 62, 63, 64, 65, 199, most, most + 1, most + 2, 1000} {
		out = append(out, some(n, first))
	}
	return out
}

// upTo are the numbers from first on, ahead of end.
func upTo(first, end int) []int {
	var out []int
	for i := first; i < end; i++ {
		out = append(out, i)
	}
	return out
}

// with is a list of its own, with another number at a place.
func with(l []int, at, n int) []int {
	l = slices.Clone(l)
	l[at] = n
	return l
}

// lists are lists that may be Unmerged and others, each thing wrong alone and with others.
func lists() [][]int {
	all := upTo(0, mostNum)
	out := [][]int{
		nil, {}, {0}, {1}, {63}, {0, 63}, {62, 63}, {0, 1, 2}, {3, 17, 40}, all, all[1:], all[:63], upTo(0, 15), upTo(0, 16), upTo(9, 30),
		{1, 1}, {0, 0}, {63, 63}, {2, 1}, {63, 0}, {0, 2, 1}, {1, 2, 2}, {2, 2, 3}, {5, 3, 4}, {0, 5, 0}, with(all, 63, 62), with(all, 0, 1), with(all, 30, 29), with(all, 63, 0), make([]int, 64),
		upTo(-1, 3), upTo(60, 65), upTo(1, 65), upTo(-1, 63), {64, 63}, {5, 64, 1}, {1, 1, -1}, {-1, -1}, {64, 64},
		upTo(0, 65), upTo(-3, 62), make([]int, 65), with(upTo(0, 65), 64, 7), with(upTo(0, 65), 3, -9), upTo(0, 1000),
	}
	for _, n := range far {
		out = append(out, []int{n}, []int{0, n}, []int{n, 63}, []int{3, 3, n}, []int{n, 9, 8}, with(all, 63, n), with(all, 0, n), with(all, 31, n))
	}
	return out
}

// all are the nodes of all of these.
func all(encs, hashes [][]byte, unmerged [][]int) []api.Inner {
	var out []api.Inner
	for _, enc := range encs {
		for _, hash := range hashes {
			for _, l := range unmerged {
				out = append(out, api.Inner{Enc: enc, Hash: hash, Unmerged: l})
			}
		}
	}
	return out
}

// good are nodes with which nothing is wrong.
func good() []api.Inner {
	var out []api.Inner
	for _, n := range all(fields(1), fields(50), lists()) {
		if len(wrongs(n)) == 0 {
			out = append(out, n)
		}
	}
	return out
}

// wrongs are all the things that are wrong with a node, in the chapter's order.
func wrongs(n api.Inner) []api.Errno {
	var out []api.Errno
	if len(n.Enc) < 1 {
		out = append(out, api.ErrEmpty)
	}
	if max(len(n.Enc), len(n.Hash)) >= 201 || len(n.Unmerged) >= 65 {
		out = append(out, api.ErrLarge)
	}
	if len(n.Unmerged) > 0 && (slices.Min(n.Unmerged) < 0 || slices.Max(n.Unmerged) > 63) {
		out = append(out, api.ErrRange)
	}
	if !slices.Equal(risen(n.Unmerged), n.Unmerged) {
		out = append(out, api.ErrUnmerged)
	}
	return out
}

// risen are numbers, the least one first, each once.
func risen(l []int) []int {
	there := map[int]bool{}
	var out []int
	for _, i := range l {
		if !there[i] {
			there[i] = true
			out = append(out, i)
		}
	}
	slices.Sort(out)
	return out
}

// counted are octets with their count ahead, as varint puts it.
func counted(v []byte) string {
	if len(v) < 64 {
		return string(rune(len(v))) + string(v)
	}
	return string([]byte{byte(64 + len(v)/256), byte(len(v) % 256)}) + string(v)
}

// numbered are numbers of four octets each, with the count of these ahead.
func numbered(l []int) string {
	var v []byte
	for _, i := range l {
		v = append(v, byte(i>>24), byte(i>>16), byte(i>>8), byte(i))
	}
	return counted(v)
}

// laid are the octets that P8.2 says of a node, whatever is wrong with it.
func laid(n api.Inner) string { return counted(n.Enc) + counted(n.Hash) + numbered(n.Unmerged) }

// equal is whether two nodes have the same fields.
func equal(a, b api.Inner) bool {
	if len(a.Unmerged) != len(b.Unmerged) {
		return false
	}
	for k, i := range a.Unmerged {
		if b.Unmerged[k] != i {
			return false
		}
	}
	return string(a.Enc) == string(b.Enc) && string(a.Hash) == string(b.Hash)
}

// tell tells a node without filling pages.
func tell(n api.Inner) string {
	field := func(v []byte) string {
		return strconv.Quote(string(v[:min(len(v), 6)])) + " of " + strconv.Itoa(len(v))
	}
	var numbers []string
	for _, i := range n.Unmerged[:min(len(n.Unmerged), 6)] {
		numbers = append(numbers, strconv.Itoa(i))
	}
	return "{" + field(n.Enc) + ", " + field(n.Hash) + ", " + strings.Join(numbers, " ") + " of " + strconv.Itoa(len(n.Unmerged)) + "}"
}

// checkError tests that octets are no node, and that nothing is told beside the error.
func checkError(t *testing.T, b string, want api.Errno) {
	t.Helper()
	n, rest, e := Get([]byte(b))
	if e != want || !equal(n, api.Inner{}) || len(rest) != 0 {
		t.Errorf("Get(%q.., of %d octets) = %s, %d octets, %d, want %d", b[:min(len(b), 24)], len(b), tell(n), len(rest), e, want)
	}
}

// checkGot tests that octets are this node and this rest.
func checkGot(t *testing.T, b string, want api.Inner, rest string) {
	t.Helper()
	n, got, e := Get([]byte(b))
	if e != api.OK || !equal(n, want) || string(got) != rest {
		t.Errorf("Get(%q.., of %d octets) = %s, %q, %d, want %s, %q", b[:min(len(b), 24)], len(b), tell(n), got, e, tell(want), rest)
	}
}

// P8.1: each thing that may be wrong, alone, at its bounds.
func TestCheckAlone(t *testing.T) {
	full, over, key := some(most, 0), some(most+1, 0), []byte("k")
	for _, c := range []struct {
		n api.Inner
		e api.Errno
	}{
		{api.Inner{Enc: key}, api.OK},
		{api.Inner{Enc: []byte{0}, Hash: []byte{}, Unmerged: []int{}}, api.OK},
		{api.Inner{Enc: key, Hash: []byte{0}}, api.OK},
		{api.Inner{Enc: full, Hash: full, Unmerged: upTo(0, 64)}, api.OK},
		{api.Inner{Enc: key, Unmerged: []int{0}}, api.OK},
		{api.Inner{Enc: key, Unmerged: []int{63}}, api.OK},
		{api.Inner{Enc: key, Unmerged: []int{0, 1, 7, 62, 63}}, api.OK},
		{api.Inner{Hash: key, Unmerged: []int{1}}, api.ErrEmpty},
		{api.Inner{Enc: []byte{}, Hash: full}, api.ErrEmpty},
		{api.Inner{Enc: over}, api.ErrLarge},
		{api.Inner{Enc: key, Hash: over}, api.ErrLarge},
		{api.Inner{Enc: some(1<<20+1, 0)}, api.ErrLarge},
		{api.Inner{Enc: key, Unmerged: []int{-1}}, api.ErrRange},
		{api.Inner{Enc: key, Unmerged: []int{64}}, api.ErrRange},
		{api.Inner{Enc: key, Unmerged: []int{-1, 0, 1}}, api.ErrRange},
		{api.Inner{Enc: key, Unmerged: []int{0, 1, 64}}, api.ErrRange},
		{api.Inner{Enc: key, Unmerged: []int{3, 3}}, api.ErrUnmerged},
		{api.Inner{Enc: key, Unmerged: []int{0, 0}}, api.ErrUnmerged},
		{api.Inner{Enc: key, Unmerged: []int{2, 1}}, api.ErrUnmerged},
		{api.Inner{Enc: key, Unmerged: []int{1, 3, 2, 4}}, api.ErrUnmerged},
		{api.Inner{Enc: key, Unmerged: make([]int, 64)}, api.ErrUnmerged},
	} {
		if e := Check(c.n); e != c.e {
			t.Errorf("Check(%s) = %d, want %d", tell(c.n), e, c.e)
		}
	}
	for _, i := range far {
		if e := Check(api.Inner{Enc: key, Unmerged: []int{i}}); e != api.ErrRange {
			t.Errorf("unmerged %d: %d", i, e)
		}
	}
	for i := range 64 {
		if e := Check(api.Inner{Enc: key, Unmerged: []int{i}}); e != api.OK {
			t.Errorf("unmerged %d: %d", i, e)
		}
	}
}

// P8.1: of several things that are wrong the first one in the chapter's order is told.
func TestCheckSeveral(t *testing.T) {
	over, key := some(most+1, 0), []byte("k")
	for _, c := range []struct {
		n api.Inner
		e api.Errno
	}{
		{api.Inner{}, api.ErrEmpty},
		{api.Inner{Hash: over}, api.ErrEmpty},
		{api.Inner{Unmerged: upTo(0, 65)}, api.ErrEmpty},
		{api.Inner{Unmerged: []int{64}}, api.ErrEmpty},
		{api.Inner{Unmerged: []int{2, 1}}, api.ErrEmpty},
		{api.Inner{Hash: over, Unmerged: []int{64, -1}}, api.ErrEmpty},
		{api.Inner{Enc: over, Unmerged: []int{64}}, api.ErrLarge},
		{api.Inner{Enc: over, Unmerged: []int{1, 1}}, api.ErrLarge},
		{api.Inner{Enc: key, Hash: over, Unmerged: []int{-1}}, api.ErrLarge},
		{api.Inner{Enc: key, Hash: over, Unmerged: []int{2, 1}}, api.ErrLarge},
		{api.Inner{Enc: key, Unmerged: upTo(0, 65)}, api.ErrLarge},
		{api.Inner{Enc: key, Unmerged: make([]int, 65)}, api.ErrLarge},
		{api.Inner{Enc: key, Unmerged: upTo(-7, 58)}, api.ErrLarge},
		{api.Inner{Enc: key, Unmerged: []int{64, 63}}, api.ErrRange},
		{api.Inner{Enc: key, Unmerged: []int{0, -1}}, api.ErrRange},
		{api.Inner{Enc: key, Unmerged: []int{64, 64}}, api.ErrRange},
		{api.Inner{Enc: key, Unmerged: []int{5, 5, 64}}, api.ErrRange},
		{api.Inner{Enc: key, Unmerged: []int{9, 8, 7, -1}}, api.ErrRange},
	} {
		if e := Check(c.n); e != c.e {
			t.Errorf("Check(%s) = %d, want %d", tell(c.n), e, c.e)
		}
	}
}

// P8.1, P8.2: of all kinds of nodes, what is wrong first is told, and what has something wrong is not put.
func TestCheckAndPutAll(t *testing.T) {
	seen := map[string]bool{}
	for _, n := range all(fields(1), fields(50), lists()) {
		all, want, put := wrongs(n), api.OK, "before"
		if len(all) > 0 {
			want = all[0]
		} else {
			put += laid(n)
		}
		name := ""
		for _, e := range all {
			name += " " + strconv.Itoa(int(e))
		}
		seen[name] = true
		if e := Check(n); e != want {
			t.Fatalf("Check(%s) = %d, want %d", tell(n), e, want)
		}
		if got := Put([]byte("before"), n); string(got) != put {
			t.Fatalf("Put(before, %s) = %q.., of %d octets, want %d", tell(n), got[:min(len(got), 24)], len(got), len(put))
		}
	}
	// None, and each set of the four things that a node can have: all 16.
	if len(seen) != 16 {
		t.Errorf("only %d sets of things that are wrong: %v", len(seen), seen)
	}
}

// P8.1: of all short lists of some numbers, just those that rise and are in range are right.
func TestCheckShortLists(t *testing.T) {
	key := []byte("k")
	for _, l := range numberLists([]int{-1, 0, 1, 2, 62, 63, 64}, 4) {
		n, want := api.Inner{Enc: key, Unmerged: l}, api.OK
		if all := wrongs(n); len(all) > 0 {
			want = all[0]
		}
		if e := Check(n); e != want {
			t.Errorf("Check(%v) = %d, want %d", l, e, want)
		}
	}
}

// numberLists are all the lists of so many of these numbers, and of fewer.
func numberLists(numbers []int, n int) [][]int {
	out := [][]int{nil}
	for at := 0; len(out[at]) < n; at++ {
		for _, i := range numbers {
			out = append(out, append(slices.Clone(out[at]), i))
		}
	}
	return out
}

// P8.1: nodes that differ in one field each are not the same, in whatever place, and those that do not differ are.
func TestSame(t *testing.T) {
	base := api.Inner{Enc: []byte("enc"), Hash: []byte("hash"), Unmerged: []int{2, 5, 9}}
	others := []api.Inner{{}, {Enc: []byte("hash"), Hash: []byte("enc"), Unmerged: []int{2, 5, 9}}, {Enc: []byte("ench"), Hash: []byte("ash"), Unmerged: []int{2, 5, 9}}}
	for _, v := range []string{"", "e", "en", "end", "Enc", "eNc", "enc\x00", "encenc", "hash"} {
		others = append(others, api.Inner{Enc: []byte(v), Hash: base.Hash, Unmerged: base.Unmerged})
	}
	for _, v := range []string{"", "h", "has", "hasp", "Hash", "haSh", "hash\x00", "enc"} {
		others = append(others, api.Inner{Enc: base.Enc, Hash: []byte(v), Unmerged: base.Unmerged})
	}
	for _, v := range [][]int{nil, {2}, {2, 5}, {2, 5, 8}, {2, 6, 9}, {1, 5, 9}, {5, 2, 9}, {9, 5, 2}, {2, 5, 9, 9}, {2, 2, 5, 9}, {2, 5, 9, 0}, {2, 5, 9 + 1<<32}, {2, 5, 9 - 256}} {
		others = append(others, api.Inner{Enc: base.Enc, Hash: base.Hash, Unmerged: v})
	}
	for k, o := range others {
		if Same(base, o) || Same(o, base) {
			t.Errorf("%s and %s are the same", tell(base), tell(o))
		}
		for n, p := range others {
			if Same(o, p) != (k == n) {
				t.Errorf("%s and %s: %t", tell(o), tell(p), Same(o, p))
			}
		}
	}
	again := api.Inner{Enc: []byte("enc"), Hash: []byte("hash"), Unmerged: []int{2, 5, 9}}
	if !Same(base, again) || !Same(base, base) {
		t.Error("the same are not the same")
	}
}

// P8.1: nil and empty are alike, in each field.
func TestSameNil(t *testing.T) {
	for _, key := range []string{"", "k"} {
		empties := [][]byte{nil, {}, []byte("x")[:0]}
		encs := empties
		if key != "" {
			encs = [][]byte{[]byte(key)}
		}
		nodes := all(encs, empties, [][]int{nil, {}, make([]int, 3)[:0]})
		for _, a := range nodes {
			for _, b := range nodes {
				if !Same(a, b) {
					t.Fatal("nil and empty are not alike")
				}
			}
			for _, b := range []api.Inner{{Enc: []byte("q")}, {Enc: []byte(key), Hash: []byte{0}}, {Enc: []byte(key), Unmerged: []int{0}}} {
				if Same(a, b) || Same(b, a) {
					t.Fatalf("%s and %s are the same", tell(a), tell(b))
				}
			}
		}
	}
}

// P8.1: long fields, and nodes with which something is wrong, are held against each other like others.
func TestSameLongAndWrong(t *testing.T) {
	for _, n := range []int{mostNum, mostNum + 1, most, most + 1, 1000} {
		for change := range 3 {
			at := change * (n - 1) / 2
			a, b := some(n, 5), some(n, 5)
			b[at]++
			l := upTo(-3, n-3)
			m := with(l, at, l[at]+1000)
			for _, pair := range [][2]api.Inner{{{Enc: a}, {Enc: b}}, {{Hash: a}, {Hash: b}}, {{Unmerged: l}, {Unmerged: m}}} {
				if Same(pair[0], pair[1]) || !Same(pair[1], pair[1]) {
					t.Errorf("fields of %d, another at %d", n, at)
				}
			}
		}
	}
	wrong := api.Inner{Unmerged: []int{-1, 70, 3, 3}}
	if !Same(wrong, api.Inner{Unmerged: []int{-1, 70, 3, 3}}) || Same(wrong, api.Inner{Unmerged: []int{-1, 3, 70}}) {
		t.Error("of nodes with which something is wrong")
	}
}

// P8.2: what is put of nodes, octet by octet.
func TestPut(t *testing.T) {
	full := string(some(most, 0))
	var everyone strings.Builder
	for i := range 64 {
		everyone.WriteString("\x00\x00\x00" + string(rune(i)))
	}
	for _, c := range []struct {
		n    api.Inner
		want string
	}{
		{api.Inner{Enc: []byte{7}, Unmerged: []int{3}}, "\x01\x07\x00\x04\x00\x00\x00\x03"},
		{api.Inner{Enc: []byte{7}}, "\x01\x07\x00\x00"},
		{api.Inner{Enc: []byte{7}, Hash: []byte{}, Unmerged: []int{}}, "\x01\x07\x00\x00"},
		{api.Inner{Enc: []byte{0}, Hash: []byte{0}, Unmerged: []int{0}}, "\x01\x00\x01\x00\x04\x00\x00\x00\x00"},
		{api.Inner{Enc: []byte("enc"), Hash: []byte("hash"), Unmerged: []int{1, 2, 63}}, "\x03enc\x04hash\x0c\x00\x00\x00\x01\x00\x00\x00\x02\x00\x00\x00\x3f"},
		{api.Inner{Enc: []byte("e"), Unmerged: upTo(0, 15)}, "\x01e\x00\x3c" + everyone.String()[:60]},
		{api.Inner{Enc: []byte("e"), Unmerged: upTo(0, 16)}, "\x01e\x00\x40\x40" + everyone.String()[:64]},
		{api.Inner{Enc: []byte(full[:63]), Hash: []byte(full[:64])}, "\x3f" + full[:63] + "\x40\x40" + full[:64] + "\x00"},
		{api.Inner{Enc: []byte(full), Hash: []byte(full), Unmerged: upTo(0, 64)}, "\x40\xc8" + full + "\x40\xc8" + full + "\x41\x00" + everyone.String()},
	} {
		for _, before := range befores {
			if got := Put([]byte(before), c.n); string(got) != before+c.want {
				t.Errorf("Put(%q, %s) = %q", before, tell(c.n), got)
			}
		}
		if got := Put(nil, c.n); string(got) != c.want {
			t.Errorf("Put(nil, %s) = %q", tell(c.n), got)
		}
	}
}

// P8.2: of a node with which something is wrong nothing is put, behind whatever.
func TestPutWrong(t *testing.T) {
	over, key := some(most+1, 0), []byte("k")
	for _, n := range []api.Inner{
		{}, {Hash: key, Unmerged: []int{1}}, {Enc: []byte{}, Hash: key}, {Enc: over}, {Enc: key, Hash: over}, {Enc: key, Unmerged: upTo(0, 65)}, {Enc: some(1<<20+1, 0)}, {Enc: key, Unmerged: make([]int, 1<<18+1)},
		{Enc: key, Unmerged: []int{-1}}, {Enc: key, Unmerged: []int{64}}, {Enc: key, Unmerged: []int{1 << 32}}, {Enc: key, Unmerged: []int{math.MinInt}},
		{Enc: key, Unmerged: []int{1, 1}}, {Enc: key, Unmerged: []int{2, 1}}, {Enc: key, Hash: key, Unmerged: []int{0, 3, 2}},
	} {
		for _, before := range befores {
			if got := Put([]byte(before), n); string(got) != before {
				t.Errorf("Put(%q, %s) = %q", before, tell(n), got)
			}
		}
		if got := Put(nil, n); len(got) != 0 {
			t.Errorf("Put(nil, %s) = %q", tell(n), got)
		}
	}
}

// P8.2, P8.4: all that is put is got, with whatever behind, and is put as it was.
func TestPutIsGot(t *testing.T) {
	nodes := good()
	for _, n := range nodes {
		put := Put(nil, n)
		for _, rest := range rests {
			got, left, e := Get(append(slices.Clone(put), rest...))
			if e != api.OK || !equal(got, n) || !Same(got, n) || string(left) != rest || !bytes.Equal(Put(nil, got), put) {
				t.Fatalf("%s and %q are got as %s, %q, %d", tell(n), rest, tell(got), left, e)
			}
		}
	}
	// One behind the other, they are got one by one.
	row := []byte(nil)
	for _, n := range nodes[:300] {
		row = Put(row, n)
	}
	for _, n := range nodes[:300] {
		got, rest, e := Get(row)
		if e != api.OK || !equal(got, n) {
			t.Fatalf("%s in a row is got as %s, %d", tell(n), tell(got), e)
		}
		row = rest
	}
	if len(row) != 0 {
		t.Errorf("%d octets are left", len(row))
	}
}

// P8.2: what is put, cut short at every place, is too short.
func TestGetCutShort(t *testing.T) {
	full, over := some(most, 9), counted(some(most+1, 0))
	for _, n := range []api.Inner{
		{Enc: []byte("a")}, {Enc: []byte("ab"), Hash: []byte("cd")}, {Enc: []byte("a"), Unmerged: []int{3}}, {Enc: []byte("abc"), Hash: []byte("d"), Unmerged: []int{0, 5, 63}},
		{Enc: full, Hash: full[1:]}, {Enc: full, Hash: full, Unmerged: upTo(0, 64)}, {Enc: full[:63], Hash: full[:64], Unmerged: upTo(3, 19)},
	} {
		put := Put(nil, n)
		for end := range put {
			checkError(t, string(put[:end]), api.ErrShort)
		}
	}
	// With something wrong that would be told only at the end, too.
	for _, b := range []string{"\x00\x00\x04\x00\x00\x00\x01", over + over + "\x04\x00\x00\x00\x40", "\x01a\x00" + numbered(upTo(0, 65)), "\x01a\x00" + numbered([]int{64, 3}), "\x01a\x00" + numbered([]int{2, 1})} {
		for end := range b {
			checkError(t, b[:end], api.ErrShort)
		}
	}
	if n, rest, e := Get(nil); e != api.ErrShort || !equal(n, api.Inner{}) || len(rest) != 0 {
		t.Error("Get(nil)", tell(n), rest, e)
	}
}

// P8.2: wire's errors, of each field, are told ahead of all that is behind, and of what Check tells.
func TestGetWireErrors(t *testing.T) {
	huge, over := "\x80\x10\x00\x01", counted(some(most+1, 0))
	for _, w := range []struct {
		octets string
		e      api.Errno
	}{
		{"\xc0", api.ErrForm}, {"\xff\xff\xff\xff", api.ErrForm}, {"\x40\x00", api.ErrForm}, {"\x40\x3f" + string(some(63, 0)), api.ErrForm}, {"\x80\x00\x00\x01a", api.ErrForm},
		{huge, api.ErrLarge}, {huge + string(some(1<<20+1, 0)), api.ErrLarge}, {"\xbf\xff\xff\xff", api.ErrLarge},
	} {
		for _, ahead := range []string{"", "\x01a", "\x00", "\x01a\x00", "\x00\x00", over, over + "\x00", over + over} {
			for _, rest := range []string{"", "\x00", "\x00\x00", "\x01a\x00\x00", "\xc0"} {
				checkError(t, ahead+w.octets+rest, w.e)
			}
		}
	}
	checkError(t, "\x05a\xc0", api.ErrShort)
	// Octets of numbers that are not a multiple of four.
	for _, n := range []int{1, 2, 3, 5, 6, 7, 9, 63, 65, 255, 257, 1000 + 1} {
		for _, ahead := range []string{"\x01a\x00", "\x01a\x01h", "\x00\x00", over + "\x00", "\x01a" + over, "\x00" + over} {
			for _, rest := range rests {
				checkError(t, ahead+counted(some(n, 0))+rest, api.ErrForm)
			}
			checkError(t, ahead+counted(some(n, 0))[:n], api.ErrShort)
		}
	}
	checkError(t, "\x01a\x00\x80\x0f\xff\xff"+string(some(1<<20-1, 0)), api.ErrForm)
}

// P8.2: Check's errors, of what was read without one.
func TestGetCheckErrors(t *testing.T) {
	full, over, everyone := counted(some(most, 0)), counted(some(most+1, 0)), numbered(upTo(0, 64))
	most20 := "\x80\x10\x00\x00" + string(some(1<<20, 0))
	for _, rest := range rests {
		for _, l := range []string{"\x00", everyone, numbered(upTo(0, 65)), numbered([]int{64}), numbered([]int{-1}), numbered([]int{2, 1}), most20} {
			checkError(t, "\x00\x00"+l+rest, api.ErrEmpty)
			checkError(t, "\x00"+full+l+rest, api.ErrEmpty)
			checkError(t, "\x00"+over+l+rest, api.ErrEmpty)
			checkError(t, over+"\x00"+l+rest, api.ErrLarge)
			checkError(t, over+over+l+rest, api.ErrLarge)
			checkError(t, "\x01a"+over+l+rest, api.ErrLarge)
			checkError(t, most20+"\x00"+l+rest, api.ErrLarge)
			checkError(t, "\x01a"+most20+l+rest, api.ErrLarge)
		}
		for _, l := range [][]int{upTo(0, 65), make([]int, 65), upTo(64, 200), make([]int, 1<<12-1)} {
			checkError(t, "\x01a\x00"+numbered(l)+rest, api.ErrLarge)
		}
		checkError(t, "\x01a\x00"+most20+rest, api.ErrLarge)
		for _, l := range [][]int{{64}, {-1}, {255}, {256}, {1 << 16}, {1 << 24}, {1 << 31}, {1<<32 - 1}, {0, 64}, {64, 0}, {5, 64, 1}, {1, 1, 64}, {1 << 24, 1 << 24}, with(upTo(0, 64), 63, 64), with(upTo(0, 64), 0, 64)} {
			checkError(t, "\x01a\x00"+numbered(l)+rest, api.ErrRange)
			checkError(t, full+full+numbered(l)+rest, api.ErrRange)
		}
		for _, l := range [][]int{{0, 0}, {1, 1}, {63, 63}, {2, 1}, {63, 0}, {1, 3, 2}, {1, 2, 2}, {0, 5, 0}, make([]int, 64), with(upTo(0, 64), 63, 62), with(upTo(0, 64), 20, 1)} {
			checkError(t, "\x01a\x00"+numbered(l)+rest, api.ErrUnmerged)
			checkError(t, full+full+numbered(l)+rest, api.ErrUnmerged)
		}
		checkGot(t, full+full+everyone+rest, api.Inner{Enc: some(most, 0), Hash: some(most, 0), Unmerged: upTo(0, 64)}, rest)
		checkGot(t, "\x01a\x01h\x04\x00\x00\x00\x09"+rest, api.Inner{Enc: []byte("a"), Hash: []byte("h"), Unmerged: []int{9}}, rest)
	}
}

// letters are all the texts of so many letters, and of fewer.
func letters(alphabet string, n int) []string {
	out := []string{""}
	for at := 0; len(out[at]) < n; at++ {
		for _, letter := range []byte(alphabet) {
			out = append(out, out[at]+string([]byte{letter}))
		}
	}
	return out
}

// P8.2, W2: of all short octets, those that begin with a node are that node and the rest, and nothing else is one.
func TestGetShortOctets(t *testing.T) {
	const alphabet, longest = "\x00\x01\x02\x04", 9
	nodes := map[string]api.Inner{}
	texts := letters(alphabet, longest-3)
	for _, enc := range texts[1:] {
		for _, hash := range texts {
			for _, l := range [][]int{nil, {0}, {1}, {2}, {4}} {
				if n := (api.Inner{Enc: []byte(enc), Hash: []byte(hash), Unmerged: l}); len(laid(n)) <= longest {
					nodes[laid(n)] = n
				}
			}
			if len(enc)+len(hash) > longest-3 {
				break
			}
		}
	}
	found := 0
	for _, b := range letters(alphabet, longest) {
		begins := -1
		for end := range len(b) + 1 {
			if _, ok := nodes[b[:end]]; ok {
				begins = end
			}
		}
		n, rest, e := Get([]byte(b))
		if begins < 0 {
			if e == api.OK || !equal(n, api.Inner{}) || len(rest) != 0 {
				t.Fatalf("Get(%q) = %s, %q, %d", b, tell(n), rest, e)
			}
			continue
		}
		found++
		if e != api.OK || !equal(n, nodes[b[:begins]]) || string(rest) != b[begins:] {
			t.Fatalf("Get(%q) = %s, %q, %d", b, tell(n), rest, e)
		}
	}
	if found == 0 {
		t.Error("no node")
	}
}

// P8.3: a number joins a list: one that rises and one that does not, there or not, least, between or greatest, whatever its size.
func TestJoin(t *testing.T) {
	for _, c := range []struct {
		l    []int
		i    int
		want []int
	}{
		{nil, 3, []int{3}}, {[]int{}, 0, []int{0}}, {nil, -5, []int{-5}}, {[]int{3}, 3, []int{3}},
		{[]int{1, 5}, 3, []int{1, 3, 5}}, {[]int{1, 5}, 0, []int{0, 1, 5}}, {[]int{1, 5}, 6, []int{1, 5, 6}}, {[]int{1, 5}, 1, []int{1, 5}}, {[]int{1, 5}, 5, []int{1, 5}},
		{[]int{5, 1}, 3, []int{1, 3, 5}}, {[]int{5, 1, 5}, 1, []int{1, 5}}, {[]int{5, 1, 5}, 9, []int{1, 5, 9}}, {[]int{4, 4, 4}, 4, []int{4}}, {[]int{4, 4, 4}, 3, []int{3, 4}}, {[]int{9, 8, 7, 8, 9}, 8, []int{7, 8, 9}},
		{[]int{0, 63}, 64, []int{0, 63, 64}}, {[]int{64, -1}, 1000, []int{-1, 64, 1000}}, {[]int{0}, -1, []int{-1, 0}},
		{[]int{math.MaxInt, math.MinInt}, 0, []int{math.MinInt, 0, math.MaxInt}}, {[]int{0, 1}, math.MinInt, []int{math.MinInt, 0, 1}}, {[]int{0, 1}, math.MaxInt, []int{0, 1, math.MaxInt}}, {[]int{math.MinInt, math.MaxInt, math.MinInt}, math.MaxInt, []int{math.MinInt, math.MaxInt}},
		{[]int{5}, 5 + 1<<32, []int{5, 5 + 1<<32}}, {[]int{-1}, 1<<32 - 1, []int{-1, 1<<32 - 1}},
	} {
		if got := Join(c.l, c.i); !slices.Equal(got, c.want) {
			t.Errorf("Join(%v, %d) = %v, want %v", c.l, c.i, got, c.want)
		}
	}
}

// P8.3: those numbers of a list that are cut are gone, each time that they are there, and the others stay, each time, as they stood.
func TestCut(t *testing.T) {
	for _, c := range []struct{ l, i, want []int }{
		{nil, nil, nil}, {nil, []int{1}, nil}, {[]int{}, []int{}, nil}, {[]int{3}, nil, []int{3}}, {[]int{3}, []int{}, []int{3}}, {[]int{3}, []int{3}, nil}, {[]int{3}, []int{4, 2}, []int{3}},
		{[]int{1, 3, 5}, []int{3}, []int{1, 5}}, {[]int{1, 3, 5}, []int{1}, []int{3, 5}}, {[]int{1, 3, 5}, []int{5}, []int{1, 3}}, {[]int{1, 3, 5}, []int{5, 1, 3}, nil}, {[]int{1, 3, 5}, []int{0, 2, 4, 6}, []int{1, 3, 5}},
		{[]int{5, 3, 1}, []int{3}, []int{5, 1}}, {[]int{5, 3, 1, 4}, nil, []int{5, 3, 1, 4}}, {[]int{5, 1, 5, 1}, []int{1}, []int{5, 5}}, {[]int{5, 1, 5, 1}, []int{9}, []int{5, 1, 5, 1}}, {[]int{2, 2, 2}, nil, []int{2, 2, 2}},
		{[]int{2, 9, 2, 4}, []int{9, 9, 9}, []int{2, 2, 4}}, {[]int{7, 3, 9, 3, 8}, []int{9, 3, 9, 7}, []int{8}}, {[]int{7, 3, 9, 3, 8}, []int{8, 7, 2}, []int{3, 9, 3}},
		{[]int{-1, 64, 0, -1}, []int{-1}, []int{64, 0}}, {[]int{math.MaxInt, math.MinInt, 0}, []int{math.MinInt}, []int{math.MaxInt, 0}}, {[]int{math.MaxInt, math.MinInt, 0}, []int{math.MaxInt, 0}, []int{math.MinInt}},
		{[]int{5, 5 + 1<<32, 5 - 256}, []int{5}, []int{5 + 1<<32, 5 - 256}},
	} {
		if got := Cut(c.l, c.i); !slices.Equal(got, c.want) {
			t.Errorf("Cut(%v, %v) = %v, want %v", c.l, c.i, got, c.want)
		}
	}
}

// P8.3: of all short lists of some numbers, joined by each and cut by each.
func TestJoinAndCutAll(t *testing.T) {
	numbers := []int{math.MinInt, -1, 0, 63, math.MaxInt}
	whole := numberLists(numbers, 4)
	for _, l := range whole {
		for _, i := range append(numbers, -2, 1, 62, 64, 1<<40) {
			if got, want := Join(l, i), risen(append(slices.Clone(l), i)); !slices.Equal(got, want) {
				t.Fatalf("Join(%v, %d) = %v, want %v", l, i, got, want)
			}
		}
		for _, i := range numberLists(numbers, 3) {
			var want []int
			for _, n := range l {
				if !slices.Contains(i, n) {
					want = append(want, n)
				}
			}
			if got := Cut(l, i); !slices.Equal(got, want) {
				t.Fatalf("Cut(%v, %v) = %v, want %v", l, i, got, want)
			}
		}
	}
}

// P1, P8.3: long lists, too, are joined and cut, and soon.
func TestLongLists(t *testing.T) {
	const n = 1 << 18
	var l, even []int
	for k := range n {
		l = append(l, (k*7919)%n)
		even = append(even, 2*((k*7919)%n))
	}
	if got := Join(append(l, l...), -1); !slices.Equal(got, upTo(-1, n)) {
		t.Errorf("%d numbers are joined", len(got))
	}
	got := Cut(l, even)
	if len(got) != n/2 || slices.ContainsFunc(got, func(i int) bool { return i%2 == 0 }) || got[0] != 7919 || got[1] != 3*7919 {
		t.Errorf("%d numbers are left", len(got))
	}
}

// R3: neither Join nor Cut changes what it is given, nor the room behind it, nor what was told ahead.
func TestJoinAndCutLeaveOthers(t *testing.T) {
	was := []int{5, 1, 5, 3, 77, 2, 1, 88}
	b := slices.Clone(was)
	l, i := b[:4], b[5:7]
	tests := []struct {
		got  func() []int
		want []int
	}{
		{func() []int { return Join(l, 4) }, []int{1, 3, 4, 5}},
		{func() []int { return Join(l, 0) }, []int{0, 1, 3, 5}},
		{func() []int { return Join(l, 1) }, []int{1, 3, 5}},
		{func() []int { return Join(b[:0], 9) }, []int{9}},
		{func() []int { return Cut(l, i) }, []int{5, 5, 3}},
		{func() []int { return Cut(l, nil) }, []int{5, 1, 5, 3}},
		{func() []int { return Cut(l, l) }, nil},
		{func() []int { return Cut(l, l[1:3]) }, []int{3}},
		{func() []int { return Cut(b[:7], b[3:]) }, []int{5, 5}},
	}
	var told [][]int
	for _, x := range tests {
		got := x.got()
		told = append(told, got)
		// What is told may have room behind it, but none of it is what was given.
		_ = append(got, -7, -7, -7, -7)
		if !slices.Equal(b, was) {
			t.Fatalf("the numbers became %v", b)
		}
	}
	for k, x := range tests {
		if !slices.Equal(told[k], x.want) {
			t.Errorf("%d: %v, want %v", k, told[k], x.want)
		}
	}
	// What was told, joined and cut again, stays as it was.
	first := Join(nil, 5)
	for range 10 {
		Join(first, 1)
		Join(first, 9)
		Cut(first, []int{5})
		if !slices.Equal(first, []int{5}) {
			t.Fatalf("%v", first)
		}
	}
	// What is told of numbers that are not changed is no piece of them.
	for _, x := range []func(l []int) []int{func(l []int) []int { return Join(l, 3) }, func(l []int) []int { return Cut(l, nil) }} {
		own := []int{1, 2, 3}
		got := x(own)
		own[0] = 9
		if !slices.Equal(got, []int{1, 2, 3}) {
			t.Errorf("%v", got)
		}
	}
}

// R3: neither the octets behind which a node is put, nor the room behind them, nor the node is changed.
func TestPutLeavesOthers(t *testing.T) {
	field, numbers := []byte("a field and more"), []int{1, 2, 9, 4}
	n := api.Inner{Enc: field[:1], Hash: field[2:7], Unmerged: numbers[:3]}
	wrong := api.Inner{Enc: field[:1], Unmerged: numbers}
	whole := []byte("before and behind")
	const put = "\x01a\x05field\x0c\x00\x00\x00\x01\x00\x00\x00\x02\x00\x00\x00\x09"
	if got := Put(whole[:6], n); string(got) != "before"+put {
		t.Errorf("%q", got)
	}
	if got := Put(whole[:6], wrong); string(got) != "before" {
		t.Errorf("%q", got)
	}
	if got := Put(field[:7], n); string(got) != "a field"+put {
		t.Errorf("%q", got)
	}
	if string(whole) != "before and behind" || string(field) != "a field and more" || !slices.Equal(numbers, []int{1, 2, 9, 4}) {
		t.Errorf("the octets became %q and %q, the numbers %v", whole, field, numbers)
	}
}

// R3: what is put twice behind the same octets leaves each other as it is.
func TestPutTwice(t *testing.T) {
	a, b := api.Inner{Enc: []byte("aa")}, api.Inner{Enc: []byte("b"), Unmerged: []int{7}}
	const putA, putB = "\x02aa\x00\x00", "\x01b\x00\x04\x00\x00\x00\x07"
	for _, start := range [][]byte{nil, make([]byte, 2, 64), Put(nil, a), Put(make([]byte, 1, 64), b)} {
		before := string(start)
		one := Put(start, a)
		two := Put(start, b)
		three := Put(one, b)
		four := Put(one, a)
		if string(start) != before || string(one) != before+putA || string(two) != before+putB || string(three) != string(one)+putB || string(four) != string(one)+putA {
			t.Errorf("behind %q: %q, %q, %q, %q", before, one, two, three, four)
		}
	}
}

// R3: what is got from stays as it is, also when something is put behind what was got.
func TestGetLeavesOctets(t *testing.T) {
	const octets = "\x01a\x02ha\x04\x00\x00\x00\x07rest and more"
	b := []byte(octets)
	n, rest, e := Get(b[:14])
	if e != api.OK || string(rest) != "rest" {
		t.Fatal(tell(n), rest, e)
	}
	for _, v := range [][]byte{n.Enc, n.Hash, rest} {
		Put(v, n)
	}
	// A field that is got and made longer does not run into what is behind it.
	for _, v := range [][]byte{n.Enc, n.Hash} {
		_ = append(v, "longer"...)
	}
	Join(n.Unmerged, 9)
	if string(b) != octets || !equal(n, api.Inner{Enc: []byte("a"), Hash: []byte("ha"), Unmerged: []int{7}}) {
		t.Errorf("the octets became %q, the node %s", b, tell(n))
	}
}

// What is told hangs on the arguments alone: asked again, also with others asked between, the same is told.
func TestAskedAgain(t *testing.T) {
	nodes := good()
	for k, n := range nodes {
		first := Put(nil, n)
		other := nodes[(k*31+7)%len(nodes)]
		Get(Put(nil, other))
		checkGot(t, string(first), n, "")
		if !bytes.Equal(Put(nil, n), first) || Check(n) != api.OK {
			t.Fatalf("%s is told otherwise", tell(n))
		}
	}
}

// P1, P8.2, P8.4: whatever the octets are, they are a node that is put as it was, or an error stands alone.
func FuzzGet(f *testing.F) {
	for _, s := range []string{"", "\x00", "\x00\x00\x00", "\x01a\x00\x00", "\x01\x07\x00\x04\x00\x00\x00\x03", "\x01a\x01h\x08\x00\x00\x00\x02\x00\x00\x00\x01", "\x01a\x00\x04\x00\x00\x00\x40", "\x01a\x00\x03\x00\x00\x00", "\x40\xc8", "\x40\xc9", "\xc0", "\x80\x10\x00\x01"} {
		f.Add([]byte(s))
	}
	f.Add([]byte(laid(api.Inner{Enc: some(most, 0), Hash: some(most, 0), Unmerged: upTo(0, 64)})))
	f.Add([]byte(laid(api.Inner{Enc: some(most+1, 0), Unmerged: upTo(0, 65)})))
	f.Fuzz(func(t *testing.T, b []byte) {
		before := bytes.Clone(b)
		n, rest, e := Get(b)
		switch e {
		case api.OK:
			if len(wrongs(n)) > 0 || laid(n)+string(rest) != string(b) || string(Put(nil, n)) != laid(n) {
				t.Fatalf("%q is %s, %q", b, tell(n), rest)
			}
		case api.ErrShort, api.ErrForm, api.ErrRange, api.ErrLarge, api.ErrEmpty, api.ErrUnmerged:
			if !equal(n, api.Inner{}) || len(rest) != 0 {
				t.Fatalf("%q: more than error %d", b, e)
			}
		default:
			t.Fatalf("%q: error %d", b, e)
		}
		if !bytes.Equal(b, before) {
			t.Fatalf("%q became %q", before, b)
		}
	})
}

// signed are numbers of an octet each, from -128 to 127, but each fifth one of them far away.
func signed(b []byte) []int {
	var out []int
	for k, octet := range b {
		n := int(int8(octet))
		if k%5 == 4 {
			n <<= 40
		}
		out = append(out, n)
	}
	return out
}

// P1, P8.1 to P8.4: whatever the node is, it is put and got, or what is wrong with it is told; its numbers are joined and cut.
func FuzzPut(f *testing.F) {
	f.Add([]byte("before"), []byte("enc"), []byte("hash"), []byte{1, 2, 63}, 5)
	f.Add([]byte(nil), []byte("enc"), []byte(nil), []byte(nil), math.MinInt)
	f.Add([]byte{0}, []byte("e"), []byte{}, []byte{64, 255, 3}, 3)
	f.Add([]byte{3, 200}, []byte("e"), []byte{}, []byte{3, 3, 2, 2, 1, 1}, math.MaxInt)
	f.Add([]byte{}, []byte(strings.Repeat("e", most+1)), []byte("h"), make([]byte, 65), -1)
	f.Fuzz(func(t *testing.T, b, enc, hash, numbers []byte, i int) {
		l := signed(numbers)
		n := api.Inner{Enc: enc, Hash: hash, Unmerged: l}
		if got := Join(l, i); !slices.Equal(got, risen(append(slices.Clone(l), i))) {
			t.Fatalf("Join(%v, %d) = %v", l, i, got)
		}
		cut := append(signed(b), i)
		if got := Cut(l, cut); !slices.Equal(got, slices.DeleteFunc(slices.Clone(l), func(n int) bool { return slices.Contains(cut, n) })) {
			t.Fatalf("Cut(%v, %v) = %v", l, cut, got)
		}
		if !slices.Equal(l, signed(numbers)) {
			t.Fatalf("the numbers became %v", l)
		}
		got := Put(b, n)
		if all := wrongs(n); len(all) > 0 {
			if Check(n) != all[0] || !bytes.Equal(got, b) {
				t.Fatalf("%s: %d, %q", tell(n), Check(n), got)
			}
			return
		}
		if Check(n) != api.OK || string(got) != string(b)+laid(n) {
			t.Fatalf("%s: %d, %q", tell(n), Check(n), got)
		}
		again, rest, e := Get(got[len(b):])
		if e != api.OK || !Same(again, n) || len(rest) != 0 {
			t.Fatalf("%s is got as %s, %q, %d", tell(n), tell(again), rest, e)
		}
	})
}
