package leaf

import (
	"bytes"
	"math"
	"slices"
	"strconv"
	"strings"
	"testing"

	"cordwood/api"
)

// most is how many octets a field has at most.
const most = 200

// sources are what may be told as Source, those that are none far away among them, and those that are one in their lowest octet alone.
var sources = []int{1, 2, 3, 0, 4, 5, -1, -2, -3, 127, 128, 255, 256, 257, 258, 259, 1<<16 + 1, math.MinInt32, math.MaxInt32, 1<<32 + 1, 1<<32 + 3, math.MinInt, math.MinInt + 1, math.MinInt + 3, math.MaxInt - 1, math.MaxInt}

// befores are octets behind which something is put.
var befores = []string{"", "a", "\x00", "\xff\x00\xc0", "\x01a\x00\x01", "sixty-four"}

// rests are octets that stand behind what is got.
var rests = []string{"", "z", "\x00", "\x01p", "\xc0", "\xff\xff\xff\xff", "a longer rest"}

// some are so many octets that are not all the same; first is where they begin.
func some(n, first int) []byte {
	b := make([]byte, n)
	for i := range b {
		b[i] = byte(first + i*7 + i>>8)
	}
	return b
}

// lengths are how many octets a field is given: at the bounds of what it may have, and at those of what its count takes.
func lengths() []int { return []int{0, 1, 2, 63, 64, 199, most, most + 1, most + 2, 1000} }

// fields are a field of each length, of none both as nil and as an empty list.
func fields(first int) [][]byte {
	out := [][]byte{nil}
	for _, n := range lengths() {
		out = append(out, some(n, first))
	}
	return out
}

// all are the leaves of all of these.
func all(encs, creds, parents [][]byte, from []int) []api.Leaf {
	var out []api.Leaf
	for _, enc := range encs {
		for _, cred := range creds {
			for _, parent := range parents {
				for _, source := range from {
					out = append(out, api.Leaf{Enc: enc, Cred: cred, Source: source, Parent: parent})
				}
			}
		}
	}
	return out
}

// many are leaves of all kinds, with nothing, with one thing and with several things wrong.
func many() []api.Leaf { return all(fields(1), fields(50), fields(100), sources) }

// good are leaves with which nothing is wrong.
func good() []api.Leaf {
	short := func(first int) [][]byte {
		var out [][]byte
		for _, n := range []int{0, 1, 2, 62, 63, 64, 65, 199, most} {
			out = append(out, some(n, first))
		}
		return out
	}
	out := all(short(1)[1:], short(50), [][]byte{nil, {}}, []int{1, 2, 3})
	return append(out, all(short(1)[1:], short(50), short(100)[1:], []int{3})...)
}

// wrongs are all the things that are wrong with a leaf, in the chapter's order.
func wrongs(l api.Leaf) []api.Errno {
	var out []api.Errno
	if len(l.Enc) < 1 {
		out = append(out, api.ErrEmpty)
	}
	if max(len(l.Enc), len(l.Cred), len(l.Parent)) >= 201 {
		out = append(out, api.ErrLarge)
	}
	if !slices.Contains([]int{1, 2, 3}, l.Source) {
		out = append(out, api.ErrKind)
	}
	if l.Source != 3 && len(l.Parent) >= 1 {
		out = append(out, api.ErrForm)
	}
	return out
}

// counted are octets of a field with their count ahead, as varint puts it.
func counted(v []byte) string {
	if len(v) < 64 {
		return string(rune(len(v))) + string(v)
	}
	return string([]byte{byte(64 + len(v)/256), byte(len(v) % 256)}) + string(v)
}

// laid are the octets that P7.2 says of a leaf, whatever is wrong with its fields.
func laid(l api.Leaf) string {
	out := counted(l.Enc) + counted(l.Cred) + string([]byte{byte(l.Source)})
	if l.Source == 3 {
		out += counted(l.Parent)
	}
	return out
}

// equal is whether two leaves have the same fields.
func equal(a, b api.Leaf) bool {
	return string(a.Enc) == string(b.Enc) && string(a.Cred) == string(b.Cred) && a.Source == b.Source && string(a.Parent) == string(b.Parent)
}

// tell tells a leaf without filling pages.
func tell(l api.Leaf) string {
	field := func(v []byte) string {
		return strconv.Quote(string(v[:min(len(v), 6)])) + " of " + strconv.Itoa(len(v))
	}
	return "{" + field(l.Enc) + ", " + field(l.Cred) + ", " + strconv.Itoa(l.Source) + ", " + field(l.Parent) + "}"
}

// checkError tests that octets are no leaf, and that nothing is told beside the error.
func checkError(t *testing.T, b string, want api.Errno) {
	t.Helper()
	l, rest, e := Get([]byte(b))
	if e != want || !equal(l, api.Leaf{}) || len(rest) != 0 {
		t.Errorf("Get(%q.., of %d octets) = %s, %d octets, %d, want %d", b[:min(len(b), 24)], len(b), tell(l), len(rest), e, want)
	}
}

// checkGot tests that octets are this leaf and this rest.
func checkGot(t *testing.T, b string, want api.Leaf, rest string) {
	t.Helper()
	l, got, e := Get([]byte(b))
	if e != api.OK || !equal(l, want) || string(got) != rest {
		t.Errorf("Get(%q.., of %d octets) = %s, %q, %d, want %s, %q", b[:min(len(b), 24)], len(b), tell(l), got, e, tell(want), rest)
	}
}

// The numbers of where leaves come from are those of api.Leaf.
func TestSources(t *testing.T) {
	if Package != 1 || Update != 2 || Commit != 3 {
		t.Error(Package, Update, Commit)
	}
}

// P7.1: each thing that may be wrong, alone, at its bounds.
func TestCheckAlone(t *testing.T) {
	full, over := some(most, 0), some(most+1, 0)
	key := []byte("k")
	for _, c := range []struct {
		l api.Leaf
		e api.Errno
	}{
		{api.Leaf{Enc: key, Source: 1}, api.OK},
		{api.Leaf{Enc: key, Source: 2}, api.OK},
		{api.Leaf{Enc: key, Source: 3}, api.OK},
		{api.Leaf{Enc: []byte{0}, Cred: []byte{}, Source: 1, Parent: []byte{}}, api.OK},
		{api.Leaf{Enc: full, Cred: full, Source: 1}, api.OK},
		{api.Leaf{Enc: full, Cred: full, Source: 2}, api.OK},
		{api.Leaf{Enc: full, Cred: full, Source: 3, Parent: full}, api.OK},
		{api.Leaf{Enc: key, Source: 3, Parent: []byte{0}}, api.OK},
		{api.Leaf{Enc: nil, Cred: key, Source: 1}, api.ErrEmpty},
		{api.Leaf{Enc: []byte{}, Cred: key, Source: 3, Parent: key}, api.ErrEmpty},
		{api.Leaf{Enc: over, Source: 1}, api.ErrLarge},
		{api.Leaf{Enc: key, Cred: over, Source: 2}, api.ErrLarge},
		{api.Leaf{Enc: key, Source: 3, Parent: over}, api.ErrLarge},
		{api.Leaf{Enc: some(1<<20+1, 0), Source: 3}, api.ErrLarge},
		{api.Leaf{Enc: key, Source: 0}, api.ErrKind},
		{api.Leaf{Enc: key, Source: 4}, api.ErrKind},
		{api.Leaf{Enc: key, Source: -1}, api.ErrKind},
		{api.Leaf{Enc: key, Source: 257}, api.ErrKind},
		{api.Leaf{Enc: key, Source: math.MinInt}, api.ErrKind},
		{api.Leaf{Enc: key, Source: math.MaxInt}, api.ErrKind},
		{api.Leaf{Enc: key, Source: 1, Parent: key}, api.ErrForm},
		{api.Leaf{Enc: key, Source: 2, Parent: full}, api.ErrForm},
	} {
		if e := Check(c.l); e != c.e {
			t.Errorf("Check(%s) = %d, want %d", tell(c.l), e, c.e)
		}
	}
}

// P7.1: of several things that are wrong the first one in the chapter's order is told.
func TestCheckSeveral(t *testing.T) {
	over, key := some(most+1, 0), []byte("k")
	for _, c := range []struct {
		l api.Leaf
		e api.Errno
	}{
		{api.Leaf{}, api.ErrEmpty},
		{api.Leaf{Cred: over, Source: 1}, api.ErrEmpty},
		{api.Leaf{Source: 3, Parent: over}, api.ErrEmpty},
		{api.Leaf{Source: 4}, api.ErrEmpty},
		{api.Leaf{Source: 2, Parent: key}, api.ErrEmpty},
		{api.Leaf{Cred: over, Source: 9, Parent: over}, api.ErrEmpty},
		{api.Leaf{Enc: over, Source: 0}, api.ErrLarge},
		{api.Leaf{Enc: key, Cred: over, Source: 4}, api.ErrLarge},
		{api.Leaf{Enc: key, Source: 7, Parent: over}, api.ErrLarge},
		{api.Leaf{Enc: key, Source: 1, Parent: over}, api.ErrLarge},
		{api.Leaf{Enc: over, Source: 2, Parent: key}, api.ErrLarge},
		{api.Leaf{Enc: key, Source: 0, Parent: key}, api.ErrKind},
		{api.Leaf{Enc: key, Source: 4, Parent: key}, api.ErrKind},
		{api.Leaf{Enc: key, Source: 259, Parent: key}, api.ErrKind},
	} {
		if e := Check(c.l); e != c.e {
			t.Errorf("Check(%s) = %d, want %d", tell(c.l), e, c.e)
		}
	}
}

// P7.1, P7.2: of all kinds of leaves, what is wrong first is told, and what has something wrong is not put.
func TestCheckAndPutAll(t *testing.T) {
	seen := map[string]bool{}
	for _, l := range many() {
		all, want, put := wrongs(l), api.OK, "before"
		if len(all) > 0 {
			want = all[0]
		} else {
			put += laid(l)
		}
		name := ""
		for _, e := range all {
			name += " " + strconv.Itoa(int(e))
		}
		seen[name] = true
		if e := Check(l); e != want {
			t.Fatalf("Check(%s) = %d, want %d", tell(l), e, want)
		}
		if got := Put([]byte("before"), l); string(got) != put {
			t.Fatalf("Put(before, %s) = %q.., of %d octets, want %d", tell(l), got[:min(len(got), 24)], len(got), len(put))
		}
	}
	// None, and each set of the four things that a leaf can have: all 16.
	if len(seen) != 16 {
		t.Errorf("only %d sets of things that are wrong: %v", len(seen), seen)
	}
}

// P7.1: leaves that differ in one field each are not the same, in whatever place, and those that do not differ are.
func TestSame(t *testing.T) {
	base := api.Leaf{Enc: []byte("enc"), Cred: []byte("cred"), Source: 3, Parent: []byte("parent")}
	with := func(change func(l *api.Leaf)) api.Leaf {
		l := base
		change(&l)
		return l
	}
	others := []api.Leaf{{}, {Source: 3}, {Enc: []byte("cred"), Cred: []byte("enc"), Source: 3, Parent: []byte("parent")}, {Enc: []byte("encc"), Cred: []byte("red"), Source: 3, Parent: []byte("parent")}}
	for _, v := range []string{"", "e", "en", "end", "Enc", "eNc", "enc\x00", "encenc", "cred"} {
		others = append(others, with(func(l *api.Leaf) { l.Enc = []byte(v) }))
	}
	for _, v := range []string{"", "c", "cre", "crew", "Cred", "crEd", "cred\x00", "parent"} {
		others = append(others, with(func(l *api.Leaf) { l.Cred = []byte(v) }))
	}
	for _, v := range []string{"", "p", "paren", "parens", "Parent", "paRent", "parent\x00", "enc"} {
		others = append(others, with(func(l *api.Leaf) { l.Parent = []byte(v) }))
	}
	for _, v := range sources {
		if v != base.Source {
			others = append(others, with(func(l *api.Leaf) { l.Source = v }))
		}
	}
	for k, o := range others {
		if Same(base, o) || Same(o, base) {
			t.Errorf("%s and %s are the same", tell(base), tell(o))
		}
		for n, p := range others {
			if Same(o, p) != (k == n) {
				t.Errorf("%s and %s: %t", tell(o), tell(p), Same(o, p))
			}
		}
	}
	again := api.Leaf{Enc: []byte("enc"), Cred: []byte("cred"), Source: 3, Parent: []byte("parent")}
	if !Same(base, again) || !Same(base, base) {
		t.Error("the same are not the same")
	}
}

// P7.1: nil and empty are alike, in each field; long fields and leaves with which something is wrong are held against each other like others.
func TestSameNilAndWrong(t *testing.T) {
	empties := [][]byte{nil, {}, []byte("x")[:0]}
	for _, source := range sources {
		for _, a := range all(empties, empties, empties, []int{source}) {
			for _, b := range all(empties, empties, empties, []int{source}) {
				if !Same(a, b) {
					t.Fatalf("nil and empty are not alike, of source %d", source)
				}
			}
			if Same(a, api.Leaf{Source: source + 1}) {
				t.Fatalf("sources %d and %d are the same", source, source+1)
			}
		}
	}
	for _, n := range []int{most, most + 1, 1000} {
		for change := range 3 {
			a, b := some(n, 5), some(n, 5)
			b[change*(n-1)/2]++
			for _, pair := range [][2]api.Leaf{{{Enc: a}, {Enc: b}}, {{Cred: a}, {Cred: b}}, {{Parent: a}, {Parent: b}}} {
				if Same(pair[0], pair[1]) || !Same(pair[1], pair[1]) {
					t.Errorf("fields of %d octets, another octet at %d", n, change*(n-1)/2)
				}
			}
		}
	}
}

// P7.2: what is put of leaves, octet by octet.
func TestPut(t *testing.T) {
	full := string(some(most, 0))
	for _, c := range []struct {
		l    api.Leaf
		want string
	}{
		{api.Leaf{Enc: []byte{7, 8}, Source: 1}, "\x02\x07\x08\x00\x01"},
		{api.Leaf{Enc: []byte{7, 8}, Source: 2}, "\x02\x07\x08\x00\x02"},
		{api.Leaf{Enc: []byte{7, 8}, Source: 3}, "\x02\x07\x08\x00\x03\x00"},
		{api.Leaf{Enc: []byte("a"), Source: 3, Parent: []byte("p")}, "\x01a\x00\x03\x01p"},
		{api.Leaf{Enc: []byte("a"), Cred: []byte("cr"), Source: 3, Parent: []byte("par")}, "\x01a\x02cr\x03\x03par"},
		{api.Leaf{Enc: []byte("a"), Cred: []byte("cr"), Source: 1, Parent: []byte{}}, "\x01a\x02cr\x01"},
		{api.Leaf{Enc: []byte{0}, Cred: []byte{0}, Source: 2}, "\x01\x00\x01\x00\x02"},
		{api.Leaf{Enc: []byte(full[:63]), Cred: []byte(full[:64]), Source: 2}, "\x3f" + full[:63] + "\x40\x40" + full[:64] + "\x02"},
		{api.Leaf{Enc: []byte(full), Cred: []byte(full), Source: 3, Parent: []byte(full)}, "\x40\xc8" + full + "\x40\xc8" + full + "\x03\x40\xc8" + full},
	} {
		for _, before := range befores {
			if got := Put([]byte(before), c.l); string(got) != before+c.want {
				t.Errorf("Put(%q, %s) = %q", before, tell(c.l), got)
			}
		}
		if got := Put(nil, c.l); string(got) != c.want {
			t.Errorf("Put(nil, %s) = %q", tell(c.l), got)
		}
	}
}

// P7.2: of a leaf with which something is wrong nothing is put, behind whatever.
func TestPutWrong(t *testing.T) {
	over, key := some(most+1, 0), []byte("k")
	for _, l := range []api.Leaf{
		{}, {Source: 1}, {Enc: []byte{}, Cred: key, Source: 3, Parent: key},
		{Enc: over, Source: 1}, {Enc: key, Cred: over, Source: 1}, {Enc: key, Source: 3, Parent: over}, {Enc: key, Source: 1, Parent: over},
		{Enc: key}, {Enc: key, Source: 4}, {Enc: key, Source: -1}, {Enc: key, Source: 257}, {Enc: key, Source: math.MinInt + 3},
		{Enc: key, Source: 1, Parent: key}, {Enc: key, Source: 2, Parent: key}, {Enc: some(1<<20+1, 0), Source: 1},
	} {
		for _, before := range befores {
			if got := Put([]byte(before), l); string(got) != before {
				t.Errorf("Put(%q, %s) = %q", before, tell(l), got)
			}
		}
		if got := Put(nil, l); len(got) != 0 {
			t.Errorf("Put(nil, %s) = %q", tell(l), got)
		}
	}
}

// P7.3, P7.4: all that is put is got, with whatever behind, and is put as it was.
func TestPutIsGot(t *testing.T) {
	for _, l := range good() {
		put := Put(nil, l)
		for _, rest := range rests {
			got, left, e := Get(append(slices.Clone(put), rest...))
			if e != api.OK || !equal(got, l) || !Same(got, l) || string(left) != rest || !bytes.Equal(Put(nil, got), put) {
				t.Fatalf("%s and %q are got as %s, %q, %d", tell(l), rest, tell(got), left, e)
			}
		}
	}
	// One behind the other, they are got one by one.
	row, leaves := []byte(nil), good()[:300]
	for _, l := range leaves {
		row = Put(row, l)
	}
	for _, l := range leaves {
		got, rest, e := Get(row)
		if e != api.OK || !equal(got, l) {
			t.Fatalf("%s in a row is got as %s, %d", tell(l), tell(got), e)
		}
		row = rest
	}
	if len(row) != 0 {
		t.Errorf("%d octets are left", len(row))
	}
}

// P7.3: what is put, cut short at every place, is too short.
func TestGetCutShort(t *testing.T) {
	full := some(most, 9)
	for _, l := range []api.Leaf{
		{Enc: []byte("a"), Source: 1}, {Enc: []byte("ab"), Cred: []byte("cd"), Source: 2}, {Enc: []byte("a"), Source: 3}, {Enc: []byte("abc"), Cred: []byte("d"), Source: 3, Parent: []byte("pq")},
		{Enc: full, Cred: full[1:], Source: 2}, {Enc: full, Cred: full, Source: 3, Parent: full}, {Enc: full[:63], Cred: full[:64], Source: 3, Parent: full[:65]},
	} {
		put := Put(nil, l)
		for end := range put {
			checkError(t, string(put[:end]), api.ErrShort)
		}
	}
	// With something wrong that would be told only at the end, too.
	for _, b := range []string{"\x00", "\x00\x00", "\x00\x00\x03", "\x00\x00\x03\x01", "\x00\x01a\x03\x02p", "\x40\xc9" + string(some(201, 0)), "\x40\xc9" + string(some(201, 0)) + "\x00", "\x01a\x00\x03\x40\xc9" + string(some(200, 0))} {
		checkError(t, b, api.ErrShort)
	}
	if l, rest, e := Get(nil); e != api.ErrShort || !equal(l, api.Leaf{}) || len(rest) != 0 {
		t.Error("Get(nil)", tell(l), rest, e)
	}
}

// P7.3: a Source that is none is told as soon as it is read, whatever is behind, and ahead of what Check tells.
func TestGetSource(t *testing.T) {
	over := counted(some(most+1, 0))
	for n := range 256 {
		octet := string([]byte{byte(n)})
		for _, rest := range rests {
			switch n {
			case 1, 2:
				checkGot(t, "\x01a\x02cr"+octet+rest, api.Leaf{Enc: []byte("a"), Cred: []byte("cr"), Source: n}, rest)
			case 3:
				checkGot(t, "\x01a\x02cr"+octet+"\x02pa"+rest, api.Leaf{Enc: []byte("a"), Cred: []byte("cr"), Source: n, Parent: []byte("pa")}, rest)
			default:
				for _, ahead := range []string{"\x01a\x02cr", "\x01a\x00", "\x00\x00", over + "\x00", "\x01a" + over, "\x00" + over} {
					checkError(t, ahead+octet+rest, api.ErrKind)
				}
			}
		}
	}
}

// P7.3: of a leaf that is no commit no parent hash is read: what is behind is the rest.
func TestGetWithoutParent(t *testing.T) {
	for _, rest := range []string{"\x01p", "\x00", "\xc0", "\x40", "\x40\x00", "\x80\x10\x00\x01"} {
		checkGot(t, "\x01a\x00\x01"+rest, api.Leaf{Enc: []byte("a"), Source: 1}, rest)
		checkGot(t, "\x01a\x00\x02"+rest, api.Leaf{Enc: []byte("a"), Source: 2}, rest)
	}
}

// P7.3: wire's errors, of each field, are told when it is read: ahead of all that is behind, and behind what is ahead.
func TestGetWireErrors(t *testing.T) {
	huge := "\x80\x10\x00\x01"
	for _, w := range []struct {
		octets string
		e      api.Errno
	}{
		{"\xc0", api.ErrForm}, {"\xff\xff\xff\xff", api.ErrForm}, {"\x40\x00", api.ErrForm}, {"\x40\x3f" + string(some(63, 0)), api.ErrForm}, {"\x80\x00\x00\x01a", api.ErrForm},
		{huge, api.ErrLarge}, {huge + string(some(1<<20+1, 0)), api.ErrLarge}, {"\xbf\xff\xff\xff", api.ErrLarge},
	} {
		for _, ahead := range []string{"", "\x01a", "\x00", "\x01a\x00\x03", "\x00\x00\x03", counted(some(most+1, 0)), counted(some(most+1, 0)) + "\x00\x03"} {
			for _, rest := range []string{"", "\x00\x04", "\x00\x01", "\x00\x00\x01"} {
				checkError(t, ahead+w.octets+rest, w.e)
			}
		}
		// A Source that is none stands ahead of it.
		checkError(t, "\x01a\x00\x04"+w.octets, api.ErrKind)
	}
	checkError(t, "\xc0\x01", api.ErrForm)
	checkError(t, "\x01a\xc0", api.ErrForm)
	checkError(t, "\x05a\xc0", api.ErrShort)
}

// P7.3: Check's errors, of what was read without one.
func TestGetCheckErrors(t *testing.T) {
	full, over := counted(some(most, 0)), counted(some(most+1, 0))
	most20 := "\x80\x10\x00\x00" + string(some(1<<20, 0))
	for _, rest := range rests {
		for _, source := range []string{"\x01", "\x02", "\x03\x00", "\x03\x01p", "\x03" + full, "\x03" + over} {
			checkError(t, "\x00\x00"+source+rest, api.ErrEmpty)
			checkError(t, "\x00"+full+source+rest, api.ErrEmpty)
			checkError(t, "\x00"+over+source+rest, api.ErrEmpty)
			checkError(t, over+"\x00"+source+rest, api.ErrLarge)
			checkError(t, over+over+source+rest, api.ErrLarge)
			checkError(t, "\x01a"+over+source+rest, api.ErrLarge)
		}
		checkError(t, "\x01a\x00\x03"+over+rest, api.ErrLarge)
		checkError(t, full+full+"\x03"+over+rest, api.ErrLarge)
		checkError(t, most20+"\x00\x01"+rest, api.ErrLarge)
		checkError(t, "\x01a"+most20+"\x02"+rest, api.ErrLarge)
		checkError(t, "\x01a\x00\x03"+most20+rest, api.ErrLarge)
		checkGot(t, full+full+"\x03"+full+rest, api.Leaf{Enc: some(most, 0), Cred: some(most, 0), Source: 3, Parent: some(most, 0)}, rest)
	}
}

// letters are all the texts of so many letters, and of fewer.
func letters(alphabet string, n int) []string {
	out := []string{""}
	for at := 0; len(out[at]) < n; at++ {
		for _, letter := range []byte(alphabet) {
			out = append(out, out[at]+string([]byte{letter}))
		}
	}
	return out
}

// P7.3, W2: of all short octets, those that begin with a leaf are that leaf and the rest, and nothing else is one.
func TestGetShortOctets(t *testing.T) {
	const alphabet, longest = "\x00\x01\x02\x03\x04", 7
	leaves := map[string]api.Leaf{}
	texts := letters(alphabet, longest-3)
	for _, enc := range texts[1:] {
		for _, cred := range texts {
			for _, parent := range texts {
				for source := 1; source <= 3; source++ {
					if source < 3 && parent != "" || len(enc)+len(cred)+len(parent) > longest-3 {
						continue
					}
					l := api.Leaf{Enc: []byte(enc), Cred: []byte(cred), Source: source, Parent: []byte(parent)}
					leaves[laid(l)] = l
				}
			}
		}
	}
	found := 0
	for _, b := range letters(alphabet, longest) {
		begins := -1
		for end := range len(b) + 1 {
			if _, ok := leaves[b[:end]]; ok {
				begins = end
			}
		}
		l, rest, e := Get([]byte(b))
		if begins < 0 {
			if e == api.OK || !equal(l, api.Leaf{}) || len(rest) != 0 {
				t.Fatalf("Get(%q) = %s, %q, %d", b, tell(l), rest, e)
			}
			continue
		}
		found++
		if e != api.OK || !equal(l, leaves[b[:begins]]) || string(rest) != b[begins:] {
			t.Fatalf("Get(%q) = %s, %q, %d", b, tell(l), rest, e)
		}
	}
	if found == 0 {
		t.Error("no leaf")
	}
}

// R3: neither the octets behind which a leaf is put, nor the room behind them, nor the leaf is changed.
func TestPutLeavesOthers(t *testing.T) {
	field := []byte("a field and more")
	l := api.Leaf{Enc: field[:1], Cred: field[2:7], Source: 3, Parent: field[8:11]}
	wrong := api.Leaf{Enc: field[:1], Source: 1, Parent: field[8:11]}
	whole := []byte("before and behind")
	if got := Put(whole[:6], l); string(got) != "before\x01a\x05field\x03\x03and" {
		t.Errorf("%q", got)
	}
	if got := Put(whole[:6], wrong); string(got) != "before" {
		t.Errorf("%q", got)
	}
	if got := Put(field[:7], l); string(got) != "a field\x01a\x05field\x03\x03and" {
		t.Errorf("%q", got)
	}
	if string(whole) != "before and behind" || string(field) != "a field and more" {
		t.Errorf("the octets became %q and %q", whole, field)
	}
}

// R3: what is put twice behind the same octets leaves each other as it is.
func TestPutTwice(t *testing.T) {
	a, b := api.Leaf{Enc: []byte("aa"), Source: 1}, api.Leaf{Enc: []byte("b"), Source: 3}
	for _, start := range [][]byte{nil, make([]byte, 2, 64), Put(nil, a), Put(make([]byte, 1, 64), b)} {
		before := string(start)
		one := Put(start, a)
		two := Put(start, b)
		three := Put(one, b)
		four := Put(one, a)
		if string(start) != before || string(one) != before+"\x02aa\x00\x01" || string(two) != before+"\x01b\x00\x03\x00" || string(three) != string(one)+"\x01b\x00\x03\x00" || string(four) != string(one)+"\x02aa\x00\x01" {
			t.Errorf("behind %q: %q, %q, %q, %q", before, one, two, three, four)
		}
	}
}

// R3: what is got from stays as it is, also when something is put behind what was got.
func TestGetLeavesOctets(t *testing.T) {
	const octets = "\x01a\x02cr\x03\x01prest and more"
	b := []byte(octets)
	l, rest, e := Get(b[:12])
	if e != api.OK || string(rest) != "rest" {
		t.Fatal(tell(l), rest, e)
	}
	for _, v := range [][]byte{l.Enc, l.Cred, l.Parent, rest} {
		Put(v, l)
	}
	// A field that is got and made longer does not run into what is behind it.
	for _, v := range [][]byte{l.Enc, l.Cred, l.Parent} {
		_ = append(v, "longer"...)
	}
	if string(b) != octets || !equal(l, api.Leaf{Enc: []byte("a"), Cred: []byte("cr"), Source: 3, Parent: []byte("p")}) {
		t.Errorf("the octets became %q, the leaf %s", b, tell(l))
	}
}

// What is told hangs on the arguments alone: asked again, also with others asked between, the same is told.
func TestAskedAgain(t *testing.T) {
	leaves := good()
	for k, l := range leaves {
		first := Put(nil, l)
		other := leaves[(k*31+7)%len(leaves)]
		Get(Put(nil, other))
		checkGot(t, string(first), l, "")
		if !bytes.Equal(Put(nil, l), first) || Check(l) != api.OK {
			t.Fatalf("%s is told otherwise", tell(l))
		}
	}
}

// P1, P7.3, P7.4: whatever the octets are, they are a leaf that is put as it was, or an error stands alone.
func FuzzGet(f *testing.F) {
	for _, s := range []string{"", "\x00", "\x00\x00\x01", "\x00\x00\x04", "\x01a\x00\x01", "\x02\x07\x08\x00\x01", "\x01a\x01c\x02z", "\x01a\x00\x03\x01p", "\x01a\x00\x03\x02p", "\x40\xc8", "\x40\xc9", "\xc0", "\x80\x10\x00\x01"} {
		f.Add([]byte(s))
	}
	f.Add([]byte(laid(api.Leaf{Enc: some(most, 0), Cred: some(most, 0), Source: 3, Parent: some(most, 0)})))
	f.Add([]byte(laid(api.Leaf{Enc: some(most+1, 0), Source: 1})))
	f.Fuzz(func(t *testing.T, b []byte) {
		before := bytes.Clone(b)
		l, rest, e := Get(b)
		switch e {
		case api.OK:
			if len(wrongs(l)) > 0 || laid(l)+string(rest) != string(b) || string(Put(nil, l)) != laid(l) {
				t.Fatalf("%q is %s, %q", b, tell(l), rest)
			}
		case api.ErrShort, api.ErrForm, api.ErrLarge, api.ErrEmpty, api.ErrKind:
			if !equal(l, api.Leaf{}) || len(rest) != 0 {
				t.Fatalf("%q: more than error %d", b, e)
			}
		default:
			t.Fatalf("%q: error %d", b, e)
		}
		if !bytes.Equal(b, before) {
			t.Fatalf("%q became %q", before, b)
		}
	})
}

// P1, P7.1, P7.2, P7.4: whatever the leaf is, it is put and got, or what is wrong with it is told.
func FuzzPut(f *testing.F) {
	for _, source := range sources {
		f.Add([]byte("before"), []byte("enc"), []byte("cred"), []byte("parent"), source)
		f.Add([]byte(nil), []byte("enc"), []byte(nil), []byte(nil), source)
		f.Add([]byte{0}, []byte(strings.Repeat("e", most+1)), []byte{}, []byte("p"), source)
	}
	f.Fuzz(func(t *testing.T, b, enc, cred, parent []byte, source int) {
		l := api.Leaf{Enc: enc, Cred: cred, Source: source, Parent: parent}
		got := Put(b, l)
		if all := wrongs(l); len(all) > 0 {
			if Check(l) != all[0] || !bytes.Equal(got, b) {
				t.Fatalf("%s: %d, %q", tell(l), Check(l), got)
			}
			return
		}
		if Check(l) != api.OK || string(got) != string(b)+laid(l) {
			t.Fatalf("%s: %d, %q", tell(l), Check(l), got)
		}
		again, rest, e := Get(got[len(b):])
		if e != api.OK || !Same(again, l) || len(rest) != 0 {
			t.Fatalf("%s is got as %s, %q, %d", tell(l), tell(again), rest, e)
		}
	})
}
