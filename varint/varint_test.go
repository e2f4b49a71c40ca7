package varint

import (
	"bytes"
	"math"
	"testing"

	"cordwood/api"
)

// forms are numbers and their octets, as P1.1 says them: ordinary ones, and those at which the count of octets changes.
var forms = []struct {
	n      int
	octets string
}{
	{0, "\x00"},
	{1, "\x01"},
	{37, "\x25"},
	{62, "\x3e"},
	{63, "\x3f"},
	{64, "\x40\x40"},
	{65, "\x40\x41"},
	{255, "\x40\xff"},
	{256, "\x41\x00"},
	{15293, "\x7b\xbd"},
	{16382, "\x7f\xfe"},
	{16383, "\x7f\xff"},
	{16384, "\x80\x00\x40\x00"},
	{16385, "\x80\x00\x40\x01"},
	{65535, "\x80\x00\xff\xff"},
	{65536, "\x80\x01\x00\x00"},
	{1 << 24, "\x81\x00\x00\x00"},
	{494878333, "\x9d\x7f\x3e\x7d"},
	{0x12345678, "\x92\x34\x56\x78"},
	{1<<30 - 2, "\xbf\xff\xff\xfe"},
	{1<<30 - 1, "\xbf\xff\xff\xff"},
}

// formless are numbers without octets; some of them are small ones, if their high bits are lost.
func formless() []int {
	l := []int{-1, -2, -63, -64, -16384, -1 << 30, math.MinInt32, 1 << 30, 1<<30 + 1, math.MaxInt32, math.MinInt, math.MinInt + 1, math.MaxInt}
	if math.MaxInt > math.MaxInt32 {
		high := math.MaxInt/2 + 1
		l = append(l, high, high+5, -high+5, high>>16, high>>30, high>>30+64)
	}
	return l
}

// P1.1: how many octets a number has.
func TestSize(t *testing.T) {
	if Most != 1<<30-1 {
		t.Errorf("Most is %d", Most)
	}
	for _, f := range forms {
		if got := Size(f.n); got != len(f.octets) {
			t.Errorf("Size(%d) = %d, want %d", f.n, got, len(f.octets))
		}
	}
	for _, n := range formless() {
		if got := Size(n); got != 0 {
			t.Errorf("Size(%d) = %d, want 0", n, got)
		}
	}
}

// P1.1: a number's octets, behind none and behind others.
func TestPut(t *testing.T) {
	for _, f := range forms {
		for _, before := range []string{"", "a", "\xff\x00\xc0", "sixty-four"} {
			if got := Put([]byte(before), f.n); string(got) != before+f.octets {
				t.Errorf("Put(%q, %d) = %q, want %q", before, f.n, got, before+f.octets)
			}
		}
		if got := Put(nil, f.n); string(got) != f.octets {
			t.Errorf("Put(nil, %d) = %q, want %q", f.n, got, f.octets)
		}
	}
}

// P1.1: of a number without octets, what is answered is what was there.
func TestPutFormless(t *testing.T) {
	for _, n := range formless() {
		for _, before := range []string{"", "a", "\xff\x00\xc0"} {
			if got := Put([]byte(before), n); string(got) != before {
				t.Errorf("Put(%q, %d) = %q", before, n, got)
			}
		}
		if got := Put(nil, n); len(got) != 0 {
			t.Errorf("Put(nil, %d) = %q", n, got)
		}
	}
}

// R3: neither the octets that are handed in nor the room behind them is changed.
func TestPutLeavesOthers(t *testing.T) {
	for _, f := range forms {
		whole := []byte("before and behind")
		got := Put(whole[:6], f.n)
		if string(whole) != "before and behind" {
			t.Errorf("Put of %d has changed what was handed in to %q", f.n, whole)
		}
		if string(got) != "before"+f.octets {
			t.Errorf("Put(%q, %d) = %q", "before", f.n, got)
		}
	}
}

// R3: two numbers that are put behind the same octets leave each other as they are.
func TestPutTwice(t *testing.T) {
	start := make([]byte, 0, 64)
	for range 3 {
		start = Put(start, 7)
	}
	for _, f := range forms {
		for _, g := range forms {
			one := Put(start, f.n)
			two := Put(start, g.n)
			if string(one) != "\a\a\a"+f.octets || string(two) != "\a\a\a"+g.octets || string(start) != "\a\a\a" {
				t.Fatalf("%d and %d behind the same octets: %q, %q, behind %q", f.n, g.n, one, two, start)
			}
		}
	}
}

// P1.2: the number and the rest.
func TestGet(t *testing.T) {
	for _, f := range forms {
		for _, rest := range []string{"", "z", "\x00", "\xff\xff\xff\xff", "a longer rest"} {
			n, got, e := Get([]byte(f.octets + rest))
			if n != f.n || string(got) != rest || e != api.OK {
				t.Errorf("Get(%q) = %d, %q, %d, want %d, %q, 0", f.octets+rest, n, got, e, f.n, rest)
			}
		}
	}
}

// P1.2: each error, and which one comes first.
func TestGetWrong(t *testing.T) {
	for _, w := range []struct {
		octets string
		e      api.Errno
	}{
		{"", api.ErrShort},
		// A first octet of 192 or more, whatever follows.
		{"\xc0", api.ErrForm},
		{"\xc0\x00\x00\x00", api.ErrForm},
		{"\xc0\x00\x00\x00\x00\x00\x00\x00", api.ErrForm},
		{"\xdf\xff\xff\xff\xff\xff\xff\xff\xff", api.ErrForm},
		{"\xff", api.ErrForm},
		{"\xff\xff\xff\xff\xff", api.ErrForm},
		// Octets are missing, even of a number that has fewer.
		{"\x40", api.ErrShort},
		{"\x7f", api.ErrShort},
		{"\x80", api.ErrShort},
		{"\xbf", api.ErrShort},
		{"\x80\x00", api.ErrShort},
		{"\x80\x00\x00", api.ErrShort},
		{"\x80\x00\x40", api.ErrShort},
		{"\xbf\xff\xff", api.ErrShort},
		// A number that has fewer octets.
		{"\x40\x00", api.ErrForm},
		{"\x40\x01", api.ErrForm},
		{"\x40\x3f", api.ErrForm},
		{"\x40\x3fz", api.ErrForm},
		{"\x80\x00\x00\x00", api.ErrForm},
		{"\x80\x00\x00\x3f", api.ErrForm},
		{"\x80\x00\x00\x40", api.ErrForm},
		{"\x80\x00\x3f\xff", api.ErrForm},
		{"\x80\x00\x3f\xffz", api.ErrForm},
	} {
		n, rest, e := Get([]byte(w.octets))
		if n != 0 || len(rest) != 0 || e != w.e {
			t.Errorf("Get(%q) = %d, %q, %d, want 0, nothing, %d", w.octets, n, rest, e, w.e)
		}
	}
	if n, rest, e := Get(nil); n != 0 || len(rest) != 0 || e != api.ErrShort {
		t.Errorf("Get(nil) = %d, %q, %d", n, rest, e)
	}
}

// R3: what is got from stays as it is, and so does the rest when something is put behind it.
func TestGetLeavesOctets(t *testing.T) {
	b := []byte("\x40\x40rest and more")
	_, rest, e := Get(b[:6])
	if e != api.OK || string(rest) != "rest" {
		t.Fatalf("rest %q, error %d", rest, e)
	}
	Put(rest, 5)
	if string(b) != "\x40\x40rest and more" {
		t.Errorf("the octets became %q", b)
	}
}

// P1.3: what is put is got.
func TestPutIsGot(t *testing.T) {
	check := func(n int) {
		b := Put(nil, n)
		if len(b) != Size(n) {
			t.Fatalf("%d has %d octets, Size says %d", n, len(b), Size(n))
		}
		got, rest, e := Get(append(b, "rest"...))
		if got != n || string(rest) != "rest" || e != api.OK {
			t.Fatalf("%d is put as %q and got as %d, %q, %d", n, b, got, rest, e)
		}
	}
	for n := range 1 << 17 {
		check(n)
	}
	for n := 1 << 17; n <= Most; n += 9973 {
		check(n)
	}
	for n := Most - 300; n <= Most; n++ {
		check(n)
	}
}

// P1.3: nothing else is got than what is put.
func TestGotIsPut(t *testing.T) {
	for first := range 256 {
		checkGot(t, []byte{byte(first)})
		for second := range 256 {
			checkGot(t, []byte{byte(first), byte(second)})
			checkGot(t, []byte{byte(first), byte(second), 64})
			for _, third := range []byte{0, 1, 63, 64, 127, 128, 255} {
				checkGot(t, []byte{byte(first), byte(second), third, 0})
				checkGot(t, []byte{byte(first), byte(second), third, 255, 0})
			}
		}
	}
}

// checkGot tests that octets either are a number's and a rest, or none, with nothing beside the error.
func checkGot(t *testing.T, b []byte) {
	t.Helper()
	before := bytes.Clone(b)
	n, rest, e := Get(b)
	if !bytes.Equal(b, before) {
		t.Fatalf("Get has changed %q to %q", before, b)
	}
	switch e {
	case api.OK:
		if again := append(Put(nil, n), rest...); !bytes.Equal(again, b) {
			t.Fatalf("Get(%q) = %d, %q, which is put as %q", b, n, rest, again)
		}
	case api.ErrShort, api.ErrForm:
		if n != 0 || len(rest) != 0 {
			t.Fatalf("Get(%q) = %d, %q beside error %d", b, n, rest, e)
		}
	default:
		t.Fatalf("Get(%q): error %d", b, e)
	}
}

// P1: whatever the octets are, Get ends without a panic and tells no more than P1.3 allows.
func FuzzGet(f *testing.F) {
	for _, s := range []string{"", "\x3f", "\x40\x40", "\x80\x00\x40\x00", "\x40\x3f", "\xc0", "\xbf\xff\xff"} {
		f.Add([]byte(s))
	}
	f.Fuzz(func(t *testing.T, b []byte) { checkGot(t, b) })
}

// P1: whatever the number is, Put ends without a panic, and lays as many octets as Size says.
func FuzzPut(f *testing.F) {
	for _, n := range []int{math.MinInt, -1, 0, 63, 64, 16383, 16384, Most, Most + 1, math.MaxInt} {
		f.Add([]byte("before"), n)
	}
	f.Fuzz(func(t *testing.T, b []byte, n int) {
		got := Put(b, n)
		if len(got) != len(b)+Size(n) || !bytes.HasPrefix(got, b) {
			t.Fatalf("Put(%q, %d) = %q", b, n, got)
		}
	})
}
