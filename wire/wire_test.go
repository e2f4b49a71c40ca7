package wire

import (
	"bytes"
	"math"
	"slices"
	"strings"
	"testing"

	"cordwood/api"
)

// The most octets that are put, and one number of a list more than has room in them.
const (
	mostOctets = 1 << 20
	tooMany    = mostOctets/4 + 1
)

// numbers are numbers and their lowest four octets, as P2.1 says them: at the powers of 2^8, below 0, and with bits that are lost.
var numbers = []struct {
	n      int
	octets string
}{
	{0, "\x00\x00\x00\x00"},
	{1, "\x00\x00\x00\x01"},
	{127, "\x00\x00\x00\x7f"},
	{128, "\x00\x00\x00\x80"},
	{1<<8 - 1, "\x00\x00\x00\xff"},
	{1 << 8, "\x00\x00\x01\x00"},
	{258, "\x00\x00\x01\x02"},
	{1<<16 - 1, "\x00\x00\xff\xff"},
	{1 << 16, "\x00\x01\x00\x00"},
	{1<<24 - 1, "\x00\xff\xff\xff"},
	{1 << 24, "\x01\x00\x00\x00"},
	{0x12345678, "\x12\x34\x56\x78"},
	{math.MaxInt32, "\x7f\xff\xff\xff"},
	{1 << 31, "\x80\x00\x00\x00"},
	{1<<32 - 2, "\xff\xff\xff\xfe"},
	{1<<32 - 1, "\xff\xff\xff\xff"},
	{1 << 32, "\x00\x00\x00\x00"},
	{1<<32 + 5, "\x00\x00\x00\x05"},
	{1<<40 + 1<<31, "\x80\x00\x00\x00"},
	{0x123456789abcdef, "\x89\xab\xcd\xef"},
	{-1, "\xff\xff\xff\xff"},
	{-2, "\xff\xff\xff\xfe"},
	{-256, "\xff\xff\xff\x00"},
	{-258, "\xff\xff\xfe\xfe"},
	{-1 << 16, "\xff\xff\x00\x00"},
	{math.MinInt32, "\x80\x00\x00\x00"},
	{-1 << 32, "\x00\x00\x00\x00"},
	{-1<<32 + 7, "\x00\x00\x00\x07"},
	{math.MinInt, "\x00\x00\x00\x00"},
	{math.MinInt + 3, "\x00\x00\x00\x03"},
	{math.MaxInt, "\xff\xff\xff\xff"},
}

// widths are what may be asked for as k, and how many octets that is.
var widths = []struct{ k, octets int }{
	{1, 1}, {2, 2}, {3, 3}, {4, 4},
	{0, 1}, {-1, 1}, {-4, 1}, {math.MinInt32, 1}, {math.MinInt, 1},
	{5, 4}, {8, 4}, {256, 4}, {1<<32 + 2, 4}, {math.MaxInt32, 4}, {math.MaxInt, 4},
}

// befores are octets behind which something is put.
var befores = []string{"", "a", "\x00", "\xff\x00\xc0", "sixty-four"}

// rests are octets that stand behind what is got.
var rests = []string{"", "z", "\x00", "\xff\xff\xff\xff", "a longer rest"}

// counts are counts of octets, and how varint puts them.
var counts = []struct {
	n    int
	said string
}{
	{0, "\x00"},
	{1, "\x01"},
	{2, "\x02"},
	{62, "\x3e"},
	{63, "\x3f"},
	{64, "\x40\x40"},
	{65, "\x40\x41"},
	{16382, "\x7f\xfe"},
	{16383, "\x7f\xff"},
	{16384, "\x80\x00\x40\x00"},
	{16385, "\x80\x00\x40\x01"},
	{mostOctets - 1, "\x80\x0f\xff\xff"},
	{mostOctets, "\x80\x10\x00\x00"},
}

// notCounts are octets that begin with no count, and varint.Get's error.
var notCounts = []struct {
	octets string
	e      api.Errno
}{
	{"", api.ErrShort},
	{"\x40", api.ErrShort},
	{"\x7f", api.ErrShort},
	{"\x80", api.ErrShort},
	{"\x80\x10\x00", api.ErrShort},
	{"\xbf\xff\xff", api.ErrShort},
	{"\xc0", api.ErrForm},
	{"\xc0\x00\x00\x00\x00", api.ErrForm},
	{"\xff\xff\xff\xff\xff", api.ErrForm},
	{"\x40\x00", api.ErrForm},
	{"\x40\x02ab", api.ErrForm},
	{"\x40\x3f" + strings.Repeat("x", 63), api.ErrForm},
	{"\x80\x00\x00\x04abcd", api.ErrForm},
	{"\x80\x00\x3f\xff", api.ErrForm},
}

// tooLarge are octets that begin with a count above the most, whether they follow or not.
func tooLarge() [][]byte {
	return [][]byte{
		[]byte("\x80\x10\x00\x01"),
		[]byte("\x80\x10\x00\x04abcd"),
		[]byte("\x81\x00\x00\x00"),
		[]byte("\xbf\xff\xff\xff"),
		append([]byte("\x80\x10\x00\x01"), some(mostOctets+1)...),
		append([]byte("\x80\x10\x00\x04"), some(mostOctets+9)...),
	}
}

// some are so many octets that are not all the same.
func some(n int) []byte {
	b := make([]byte, n)
	for i := range b {
		b[i] = byte(i*7 + i>>8 + 1)
	}
	return b
}

// short tells octets without filling pages.
func short(b []byte) []byte { return b[:min(len(b), 24)] }

// P2.1: the lowest octets of a number, behind none and behind others.
func TestPutNum(t *testing.T) {
	for _, f := range numbers {
		for _, w := range widths {
			want := f.octets[4-w.octets:]
			for _, before := range befores {
				if got := PutNum([]byte(before), f.n, w.k); string(got) != before+want {
					t.Errorf("PutNum(%q, %d, %d) = %q, want %q", before, f.n, w.k, got, before+want)
				}
			}
			if got := PutNum(nil, f.n, w.k); string(got) != want {
				t.Errorf("PutNum(nil, %d, %d) = %q, want %q", f.n, w.k, got, want)
			}
		}
	}
}

// P2.1: the number of the first octets, and the rest.
func TestGetNum(t *testing.T) {
	for _, g := range []struct {
		octets string
		n      int
	}{
		{"\x00", 0}, {"\x01", 1}, {"\x80", 128}, {"\xff", 255},
		{"\x00\x00", 0}, {"\x00\xff", 255}, {"\x01\x00", 1 << 8}, {"\x01\x02", 258}, {"\xff\xff", 1<<16 - 1},
		{"\x00\x00\x00", 0}, {"\x01\x00\x00", 1 << 16}, {"\x01\x02\x03", 66051}, {"\xff\xff\xff", 1<<24 - 1},
		{"\x00\x00\x00\x00", 0}, {"\x00\x00\x01\x02", 258}, {"\x01\x00\x00\x00", 1 << 24}, {"\x7f\xff\xff\xff", math.MaxInt32},
		{"\x80\x00\x00\x00", 1 << 31}, {"\xff\xff\xff\xfe", 1<<32 - 2}, {"\xff\xff\xff\xff", 1<<32 - 1},
	} {
		for _, w := range widths {
			if w.octets != len(g.octets) {
				continue
			}
			for _, rest := range rests {
				n, got, e := GetNum([]byte(g.octets+rest), w.k)
				if n != g.n || string(got) != rest || e != api.OK {
					t.Errorf("GetNum(%q, %d) = %d, %q, %d, want %d, %q, 0", g.octets+rest, w.k, n, got, e, g.n, rest)
				}
			}
		}
	}
}

// P2.1, P2.4: too few octets are an error, and nothing else is told.
func TestGetNumShort(t *testing.T) {
	for _, w := range widths {
		for have := range w.octets {
			n, rest, e := GetNum([]byte("\x01\xff\x03\x04")[:have], w.k)
			if n != 0 || len(rest) != 0 || e != api.ErrShort {
				t.Errorf("GetNum of %d octets, %d = %d, %q, %d", have, w.k, n, rest, e)
			}
		}
		if n, rest, e := GetNum(nil, w.k); n != 0 || len(rest) != 0 || e != api.ErrShort {
			t.Errorf("GetNum(nil, %d) = %d, %q, %d", w.k, n, rest, e)
		}
	}
}

// P2.4: of a number, what is put is got, as far as its octets tell it.
func TestPutNumIsGot(t *testing.T) {
	for _, f := range numbers {
		for _, w := range widths {
			want := f.n & (1<<(8*w.octets) - 1)
			for _, rest := range rests {
				b := append(PutNum(nil, f.n, w.k), rest...)
				n, got, e := GetNum(b, w.k)
				if n != want || string(got) != rest || e != api.OK {
					t.Errorf("%d in %d octets is got as %d, %q, %d, want %d, %q", f.n, w.k, n, got, e, want, rest)
				}
			}
		}
	}
}

// P2.2: how many octets there are, and the octets, behind none and behind others.
func TestPutBytes(t *testing.T) {
	if got := PutBytes(nil, []byte{7, 8}); string(got) != "\x02\x07\x08" {
		t.Errorf("7 and 8 are put as %q", got)
	}
	for _, c := range counts {
		v := some(c.n)
		for _, before := range befores {
			want := before + c.said + string(v)
			if got := PutBytes([]byte(before), v); string(got) != want {
				t.Errorf("PutBytes(%q, %d octets) = %q.., of %d octets", before, c.n, short(got), len(got))
			}
		}
	}
	if got := PutBytes(nil, nil); string(got) != "\x00" {
		t.Errorf("PutBytes(nil, nil) = %q", got)
	}
	if got := PutBytes([]byte("a"), nil); string(got) != "a\x00" {
		t.Errorf("PutBytes(a, nil) = %q", got)
	}
}

// P2.2: of too many octets, what is answered is what was there.
func TestPutBytesLarge(t *testing.T) {
	for _, n := range []int{mostOctets + 1, mostOctets + 2, 2 * mostOctets, 16 * mostOctets} {
		for _, before := range befores {
			if got := PutBytes([]byte(before), some(n)); string(got) != before {
				t.Errorf("PutBytes(%q, %d octets) = %q.., of %d octets", before, n, short(got), len(got))
			}
		}
		if got := PutBytes(nil, some(n)); len(got) != 0 {
			t.Errorf("PutBytes(nil, %d octets) has %d octets", n, len(got))
		}
	}
	// What is there already does not count.
	if got := PutBytes(some(mostOctets+1), []byte("ab")); string(got) != string(some(mostOctets+1))+"\x02ab" {
		t.Errorf("two octets behind many: %d octets", len(got))
	}
}

// P2.2, P2.4: the octets and the rest, of what is put and whatever behind.
func TestGetBytes(t *testing.T) {
	for _, c := range counts {
		v := some(c.n)
		for _, rest := range rests {
			b := []byte(c.said + string(v) + rest)
			got, left, e := GetBytes(b)
			if !bytes.Equal(got, v) || string(left) != rest || e != api.OK {
				t.Errorf("GetBytes of %d octets and %q: %d octets, %q, %d", c.n, rest, len(got), left, e)
			}
			got, left, e = GetBytes(append(PutBytes(nil, v), rest...))
			if !bytes.Equal(got, v) || string(left) != rest || e != api.OK {
				t.Errorf("%d octets are put and got as %d octets, %q, %d", c.n, len(got), left, e)
			}
		}
	}
}

// P2.2, P2.4: each error, which one comes first, and that nothing else is told.
func TestGetBytesWrong(t *testing.T) {
	check := func(b []byte, want api.Errno) {
		t.Helper()
		if v, rest, e := GetBytes(b); len(v) != 0 || len(rest) != 0 || e != want {
			t.Errorf("GetBytes(%q.., of %d octets) = %d octets, %d octets, %d, want %d", short(b), len(b), len(v), len(rest), e, want)
		}
	}
	check(nil, api.ErrShort)
	for _, w := range notCounts {
		check([]byte(w.octets), w.e)
	}
	for _, b := range tooLarge() {
		check(b, api.ErrLarge)
	}
	for _, c := range counts[1:] {
		check([]byte(c.said), api.ErrShort)
		check(append([]byte(c.said), some(c.n/2)...), api.ErrShort)
		check(append([]byte(c.said), some(c.n-1)...), api.ErrShort)
	}
}

// P2.3: the four octets of each number, with their count ahead.
func TestPutNums(t *testing.T) {
	if got := PutNums(nil, []int{1, 258}); string(got) != "\x08\x00\x00\x00\x01\x00\x00\x01\x02" {
		t.Errorf("1 and 258 are put as %q", got)
	}
	var all []int
	octets := ""
	for _, f := range numbers {
		if got := PutNums([]byte("a"), []int{f.n}); string(got) != "a\x04"+f.octets {
			t.Errorf("PutNums(a, %d) = %q", f.n, got)
		}
		all = append(all, f.n)
		octets += f.octets
	}
	for _, before := range befores {
		if got := PutNums([]byte(before), all); string(got) != before+"\x40\x7c"+octets {
			t.Errorf("PutNums(%q, all) = %q", before, got)
		}
		if got := PutNums([]byte(before), nil); string(got) != before+"\x00" {
			t.Errorf("PutNums(%q, nil) = %q", before, got)
		}
		if got := PutNums([]byte(before), []int{}); string(got) != before+"\x00" {
			t.Errorf("PutNums(%q, none) = %q", before, got)
		}
	}
}

// P2.3: the counts of numbers at which the count's octets change, and more than are put.
func TestPutNumsMany(t *testing.T) {
	for _, c := range []struct {
		n    int
		said string
	}{{15, "\x3c"}, {16, "\x40\x40"}, {4095, "\x7f\xfc"}, {4096, "\x80\x00\x40\x00"}, {tooMany - 2, "\x80\x0f\xff\xfc"}, {tooMany - 1, "\x80\x10\x00\x00"}} {
		got := PutNums([]byte("a"), make([]int, c.n))
		if string(got) != "a"+c.said+strings.Repeat("\x00", 4*c.n) {
			t.Errorf("%d numbers: %q.., of %d octets", c.n, short(got), len(got))
		}
	}
	for _, n := range []int{tooMany, tooMany + 1, 2 * tooMany, mostOctets, mostOctets + 1} {
		for _, before := range befores {
			if got := PutNums([]byte(before), make([]int, n)); string(got) != before {
				t.Errorf("PutNums(%q, %d numbers) = %q.., of %d octets", before, n, short(got), len(got))
			}
		}
	}
}

// P2.3, P2.4: of lists, what is put is got modulo 2^32, with whatever behind.
func TestPutNumsIsGot(t *testing.T) {
	var all []int
	for _, f := range numbers {
		all = append(all, f.n)
	}
	many := make([]int, tooMany-1)
	for i := range many {
		many[i] = i * 40503
	}
	for _, l := range [][]int{nil, {0}, {1<<32 - 1}, {-1, 0}, all, many[:15], many[:16], many[:4095], many[:4096], many} {
		want := make([]int, len(l))
		for i, n := range l {
			want[i] = n & (1<<32 - 1)
		}
		for _, rest := range rests {
			got, left, e := GetNums(append(PutNums(nil, l), rest...))
			if !slices.Equal(got, want) || string(left) != rest || e != api.OK {
				t.Errorf("%d numbers and %q are got as %d numbers, %q, %d", len(l), rest, len(got), left, e)
			}
		}
	}
}

// P2.3: the numbers of four octets each, and the rest.
func TestGetNums(t *testing.T) {
	for _, g := range []struct {
		octets string
		l      []int
		rest   string
	}{
		{"\x00", nil, ""},
		{"\x00abcd", nil, "abcd"},
		{"\x04\x00\x00\x00\x00", []int{0}, ""},
		{"\x04\x80\x00\x00\x00\x04", []int{1 << 31}, "\x04"},
		{"\x08\x00\x00\x00\x01\x00\x00\x01\x02", []int{1, 258}, ""},
		{"\x08\xff\xff\xff\xff\x00\x00\x00\x00z", []int{1<<32 - 1, 0}, "z"},
		{"\x0c\x01\x02\x03\x04\x00\x00\x00\x09\x00\x00\x00\x09rest", []int{0x1020304, 9, 9}, "rest"},
	} {
		l, rest, e := GetNums([]byte(g.octets))
		if !slices.Equal(l, g.l) || string(rest) != g.rest || e != api.OK {
			t.Errorf("GetNums(%q) = %d, %q, %d, want %d, %q, 0", g.octets, l, rest, e, g.l, g.rest)
		}
	}
}

// P2.3, P2.4: GetBytes' errors come first, then octets that are no multiple of four; nothing else is told.
func TestGetNumsWrong(t *testing.T) {
	check := func(b []byte, want api.Errno) {
		t.Helper()
		if l, rest, e := GetNums(b); len(l) != 0 || len(rest) != 0 || e != want {
			t.Errorf("GetNums(%q.., of %d octets) = %d numbers, %q, %d, want %d", short(b), len(b), len(l), short(rest), e, want)
		}
	}
	check(nil, api.ErrShort)
	for _, w := range notCounts {
		check([]byte(w.octets), w.e)
	}
	for _, b := range tooLarge() {
		check(b, api.ErrLarge)
	}
	for _, n := range []int{1, 2, 3, 5, 6, 7, 9, 63, 65, 66, 67, 16383, 16385, mostOctets - 1} {
		b := PutBytes(nil, some(n))
		check(b, api.ErrForm)
		check(append(b, 0, 0, 0), api.ErrForm)
		check(b[:len(b)-1], api.ErrShort)
	}
	for _, n := range []int{4, 8, 64, 16384, mostOctets} {
		b := PutBytes(nil, some(n))
		check(b[:len(b)-1], api.ErrShort)
		check(b[:len(b)-4], api.ErrShort)
	}
}

// P2.3: a flag is one octet.
func TestPutFlag(t *testing.T) {
	for _, before := range befores {
		if got := PutFlag([]byte(before), true); string(got) != before+"\x01" {
			t.Errorf("PutFlag(%q, true) = %q", before, got)
		}
		if got := PutFlag([]byte(before), false); string(got) != before+"\x00" {
			t.Errorf("PutFlag(%q, false) = %q", before, got)
		}
	}
	if got := PutFlag(nil, true); string(got) != "\x01" {
		t.Errorf("PutFlag(nil, true) = %q", got)
	}
}

// P2.3, P2.4: a flag and the rest; an octet that is none; none at all.
func TestGetFlag(t *testing.T) {
	for _, rest := range rests {
		for first := range 256 {
			b := append([]byte{byte(first)}, rest...)
			there, left, e := GetFlag(b)
			if first > 1 {
				if there || len(left) != 0 || e != api.ErrForm {
					t.Errorf("GetFlag(%q) = %t, %q, %d", b, there, left, e)
				}
			} else if there != (first == 1) || string(left) != rest || e != api.OK {
				t.Errorf("GetFlag(%q) = %t, %q, %d", b, there, left, e)
			}
		}
		for _, there := range []bool{false, true} {
			if got, left, e := GetFlag(append(PutFlag(nil, there), rest...)); got != there || string(left) != rest || e != api.OK {
				t.Errorf("%t and %q are got as %t, %q, %d", there, rest, got, left, e)
			}
		}
	}
	for _, b := range [][]byte{nil, {}} {
		if there, rest, e := GetFlag(b); there || len(rest) != 0 || e != api.ErrShort {
			t.Errorf("GetFlag of nothing = %t, %q, %d", there, rest, e)
		}
	}
}

// P2.4: what is put one behind the other is got one by one.
func TestPutInARow(t *testing.T) {
	b := PutFlag(PutNums(PutBytes(PutNum(nil, 66051, 3), []byte("octets")), []int{5, 1<<32 - 1}), true)
	n, b, e := GetNum(b, 3)
	if n != 66051 || e != api.OK {
		t.Fatal(n, e)
	}
	v, b, e := GetBytes(b)
	if string(v) != "octets" || e != api.OK {
		t.Fatal(v, e)
	}
	l, b, e := GetNums(b)
	if !slices.Equal(l, []int{5, 1<<32 - 1}) || e != api.OK {
		t.Fatal(l, e)
	}
	there, b, e := GetFlag(b)
	if !there || len(b) != 0 || e != api.OK {
		t.Fatal(there, b, e)
	}
}

// puts are all the calls that put something, with what they put behind octets.
var puts = []struct {
	name string
	put  func(b []byte) []byte
	want string
}{
	{"PutNum of one", func(b []byte) []byte { return PutNum(b, 7, 1) }, "\x07"},
	{"PutNum of four", func(b []byte) []byte { return PutNum(b, -1, 4) }, "\xff\xff\xff\xff"},
	{"PutBytes of none", func(b []byte) []byte { return PutBytes(b, nil) }, "\x00"},
	{"PutBytes", func(b []byte) []byte { return PutBytes(b, []byte("xy")) }, "\x02xy"},
	{"PutBytes of too many", func(b []byte) []byte { return PutBytes(b, some(mostOctets+1)) }, ""},
	{"PutNums of none", func(b []byte) []byte { return PutNums(b, nil) }, "\x00"},
	{"PutNums", func(b []byte) []byte { return PutNums(b, []int{258}) }, "\x04\x00\x00\x01\x02"},
	{"PutNums of too many", func(b []byte) []byte { return PutNums(b, make([]int, tooMany)) }, ""},
	{"PutFlag of true", func(b []byte) []byte { return PutFlag(b, true) }, "\x01"},
	{"PutFlag of false", func(b []byte) []byte { return PutFlag(b, false) }, "\x00"},
}

// R3: neither the octets behind which something is put nor the room behind them is changed.
func TestPutLeavesOthers(t *testing.T) {
	for _, p := range puts {
		whole := []byte("before and behind")
		got := p.put(whole[:6])
		if string(whole) != "before and behind" || string(got) != "before"+p.want {
			t.Errorf("%s: %q, behind %q", p.name, got, whole)
		}
	}
}

// R3: what is put twice behind the same octets leaves each other as it is.
func TestPutTwice(t *testing.T) {
	for _, first := range puts {
		for _, p := range puts {
			for _, q := range puts {
				start := first.put(make([]byte, 2, 64))
				one := p.put(start)
				two := q.put(start)
				before := "\x00\x00" + first.want
				if string(start) != before || string(one) != before+p.want || string(two) != before+q.want {
					t.Fatalf("%s, then %s and %s: %q, %q, %q", first.name, p.name, q.name, start, one, two)
				}
			}
		}
	}
}

// R3: what is put stays as it is.
func TestPutLeavesWhatIsPut(t *testing.T) {
	v := []byte("octets and more")
	PutFlag(PutBytes(nil, v[:6]), true)
	PutBytes(v[:6], v[:6])
	if string(v) != "octets and more" {
		t.Errorf("the octets became %q", v)
	}
	l := []int{-1, 1 << 32, 7, 8}
	PutFlag(PutNums(nil, l[:2]), true)
	if !slices.Equal(l, []int{-1, 1 << 32, 7, 8}) {
		t.Errorf("the numbers became %d", l)
	}
}

// R3: what is got from stays as it is, also when something is put behind what was got.
func TestGetLeavesOctets(t *testing.T) {
	const octets = "\x04\x00\x00\x00\x01rest and more"
	b := []byte(octets)
	v, rest, e := GetBytes(b[:9])
	if string(v) != "\x00\x00\x00\x01" || string(rest) != "rest" || e != api.OK {
		t.Fatal(v, rest, e)
	}
	for _, p := range puts {
		p.put(v)
		p.put(rest)
	}
	GetNums(b)
	GetNum(b, 4)
	GetFlag(b)
	if string(b) != octets || string(v) != "\x00\x00\x00\x01" || string(rest) != "rest" {
		t.Errorf("the octets became %q, %q and %q", b, v, rest)
	}
	// Octets that are got and made longer do not run into the rest.
	if _ = append(v, "longer"...); string(b) != octets {
		t.Errorf("the octets became %q", b)
	}
}

// checkGot tests of any octets that each call tells either an error alone or what is put as it was.
func checkGot(t *testing.T, b []byte, k int) {
	t.Helper()
	before := bytes.Clone(b)
	n, rest, e := GetNum(b, k)
	checkOne(t, b, append(PutNum(nil, n, k), rest...), e, n == 0 && len(rest) == 0)
	v, rest, e := GetBytes(b)
	checkOne(t, b, append(PutBytes(nil, v), rest...), e, len(v)+len(rest) == 0)
	l, rest, e := GetNums(b)
	checkOne(t, b, append(PutNums(nil, l), rest...), e, len(l)+len(rest) == 0)
	there, rest, e := GetFlag(b)
	checkOne(t, b, append(PutFlag(nil, there), rest...), e, !there && len(rest) == 0)
	if !bytes.Equal(b, before) {
		t.Fatalf("%q became %q", before, b)
	}
}

// checkOne tests one call's answer: whether it is put again as the octets that it was got from, or the error stands alone.
func checkOne(t *testing.T, b, again []byte, e api.Errno, nothing bool) {
	t.Helper()
	switch e {
	case api.OK:
		if !bytes.Equal(again, b) {
			t.Fatalf("%q is put again as %q", b, again)
		}
	case api.ErrShort, api.ErrForm, api.ErrLarge:
		if !nothing {
			t.Fatalf("%q: more than error %d", b, e)
		}
	default:
		t.Fatalf("%q: error %d", b, e)
	}
}

// P2.4, P1: all octets of up to two, and some longer ones.
func TestGotIsPut(t *testing.T) {
	checkGot(t, nil, 0)
	for first := range 256 {
		checkGot(t, []byte{byte(first)}, first-8)
		for second := range 256 {
			b := []byte{byte(first), byte(second), 64, 0, 7, 255, 1, 128, 0}
			for _, end := range []int{2, 3, 4, 5, 9} {
				checkGot(t, b[:end], second%6)
			}
		}
	}
}

// P1: whatever the octets are, what is got ends without a panic and tells no more than it may.
func FuzzGet(f *testing.F) {
	for _, s := range []string{"", "\x00", "\x01", "\x02ab", "\x02a", "\x04abcd", "\x08abcdefghij", "\x40\x40", "\x40\x3f", "\x80\x10\x00\x00", "\x80\x10\x00\x01", "\xc0"} {
		for _, w := range widths[:6] {
			f.Add([]byte(s), w.k)
		}
	}
	f.Fuzz(checkGot)
}

// P1: whatever is put behind whatever, it ends without a panic, and is got.
func FuzzPut(f *testing.F) {
	for _, g := range numbers {
		f.Add([]byte("before"), []byte("octets"), g.n, 4)
	}
	f.Add([]byte(nil), []byte(nil), math.MinInt, math.MinInt)
	f.Add([]byte{0}, some(16384), math.MaxInt, math.MaxInt)
	f.Fuzz(func(t *testing.T, b, v []byte, n, k int) {
		got := PutNum(PutNums(PutBytes(PutFlag(b, n > 0), v), []int{n, k}), n, k)
		if len(v) > mostOctets {
			return
		}
		if !bytes.HasPrefix(got, b) {
			t.Fatalf("%q.. does not begin with %q", short(got), b)
		}
		there, rest, e := GetFlag(got[len(b):])
		if there != (n > 0) || e != api.OK {
			t.Fatal(there, e)
		}
		w, rest, e := GetBytes(rest)
		if !bytes.Equal(w, v) || e != api.OK {
			t.Fatal(w, e)
		}
		l, rest, e := GetNums(rest)
		if !slices.Equal(l, []int{n & (1<<32 - 1), k & (1<<32 - 1)}) || e != api.OK {
			t.Fatal(l, e)
		}
		octets := min(max(k, 1), 4)
		m, rest, e := GetNum(rest, k)
		if m != n&(1<<(8*octets)-1) || len(rest) != 0 || e != api.OK {
			t.Fatal(m, rest, e)
		}
	})
}
