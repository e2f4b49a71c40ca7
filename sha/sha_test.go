package sha

import (
	"bytes"
	"crypto/sha256"
	"encoding/hex"
	"math"
	"math/big"
	"slices"
	"testing"

	"cordwood/block"
)

// most is how many octets a state counts at most.
const most = 1 << 50

// some are n octets, each unlike its neighbours and those 64 places away.
func some(n int) []byte {
	b := make([]byte, n)
	for i := range b {
		b[i] = byte(i*7 + i/64*3 + 1)
	}
	return b
}

// someWords are eight words that no state of New() has.
var someWords = [8]uint32{0, 1, 1 << 31, 1<<32 - 1, 0x01234567, 0x89abcdef, 42, 0xfedcba98}

// same is whether two states are, by R4: a Buf without octets may be nil or not.
func same(s, t State) bool { return s.H == t.H && bytes.Equal(s.Buf, t.Buf) && s.N == t.N }

// whole is New() of a state of which all calls take New(), and else the state.
func whole(s State) State {
	if len(s.Buf) > 63 || s.N < 0 || s.N > most {
		return State{H: block.First()}
	}
	return s
}

// slowWrite is P4.1, of all octets in one row.
func slowWrite(s State, b []byte) State {
	s = whole(s)
	if s.N+len(b) > most {
		return State{H: block.First()}
	}
	all := slices.Concat(s.Buf, b)
	blocks := len(all) / 64
	for i := range blocks {
		s.H = block.Mix(s.H, [64]byte(all[64*i:64*i+64]))
	}
	return State{s.H, all[64*blocks:], s.N + len(b)}
}

// slowPad is P4.2: zeros are laid until their number fits, and n times 8 is told by the library's great numbers.
func slowPad(n int) []byte {
	if n < 0 || n > most {
		return nil
	}
	p := []byte{128}
	for (n+len(p)+8)%64 != 0 {
		p = append(p, 0)
	}
	bits := new(big.Int).Mul(big.NewInt(int64(n)), big.NewInt(8))
	return append(p, bits.FillBytes(make([]byte, 8))...)
}

// slowDone is P4.2.
func slowDone(s State) []byte {
	s = whole(s)
	var out []byte
	for _, w := range slowWrite(s, slowPad(s.N)).H {
		out = append(out, big.NewInt(int64(w)).FillBytes(make([]byte, 4))...)
	}
	return out
}

// wrongStates are states of which all calls take New(), whatever else they say.
func wrongStates() []State {
	return []State{
		{H: someWords, Buf: some(64)},
		{H: someWords, Buf: some(64), N: 64},
		{H: someWords, Buf: some(65), N: 65},
		{H: someWords, Buf: some(128), N: 128},
		{H: someWords, Buf: some(1000), N: most},
		{H: someWords, Buf: some(64), N: -1},
		{H: someWords, N: -1},
		{H: someWords, Buf: some(5), N: -1},
		{H: someWords, Buf: some(63), N: -64},
		{H: someWords, N: -most},
		{H: someWords, N: math.MinInt},
		{H: someWords, N: most + 1},
		{H: someWords, Buf: some(1), N: most + 1},
		{H: someWords, Buf: some(63), N: most + 64},
		{H: someWords, N: math.MaxInt},
		{H: someWords, N: math.MaxInt - 63},
	}
}

// soundStates are states that stay what they are, some of which no Write leads to: their Buf and N don't go together.
func soundStates() []State {
	out := []State{{}, {H: someWords}, New()}
	for _, n := range []int{0, 1, 8, 31, 54, 55, 56, 62, 63} {
		for _, of := range []int{n, n + 64, n + 640, 0, 1, 55, 56, 64, most - 192, most - 128 + n, most - 72, most - 65, most - 64, most - 63, most - 1, most} {
			out = append(out, State{H: someWords, Buf: some(n), N: of})
		}
	}
	return out
}

// lengths are how many octets are written in most tests: none, fewer than a block, just one, several and some more.
var lengths = []int{0, 1, 2, 7, 8, 9, 31, 32, 55, 56, 57, 62, 63, 64, 65, 72, 119, 120, 127, 128, 129, 191, 192, 193, 640, 1000}

// P4.1: New() is block.First(), nothing else, at each call.
func TestNew(t *testing.T) {
	for range 2 {
		s := New()
		if s.H != block.First() || len(s.Buf) != 0 || s.N != 0 {
			t.Errorf("New() = %v", s)
		}
		s.H[0], s.H[7] = 0, 0
	}
}

// P4.1: octets behind Bufs that are empty, nearly full and all in between, of no octets, fewer than a block, just one, several and some more.
func TestWrite(t *testing.T) {
	for ahead := range 64 {
		for _, n := range lengths {
			s := State{H: someWords, Buf: some(ahead), N: 640 + ahead}
			b := some(n + 5)[5:]
			got, want := Write(s, b), slowWrite(s, b)
			if !same(got, want) {
				t.Errorf("Write of %d octets behind %d: %v, want %v", n, ahead, got, want)
			}
			if len(got.Buf) != (ahead+n)%64 || got.N != 640+ahead+n {
				t.Errorf("Write of %d octets behind %d: %d octets are left, N is %d", n, ahead, len(got.Buf), got.N)
			}
		}
	}
}

// P4.1: of no octets the state stays as it is; fewer than a block are left over and change no word.
func TestWriteFew(t *testing.T) {
	for ahead := range 64 {
		for n := range 64 - ahead {
			s := State{H: someWords, Buf: some(ahead), N: 64 + ahead}
			b := bytes.Repeat([]byte{200}, n)
			want := State{someWords, slices.Concat(some(ahead), b), 64 + ahead + n}
			if got := Write(s, b); !same(got, want) {
				t.Errorf("Write of %d octets behind %d: %v", n, ahead, got)
			}
		}
	}
	if got := Write(New(), nil); !same(got, New()) {
		t.Errorf("Write(New(), nil) = %v", got)
	}
	if got := Write(State{}, nil); !same(got, State{}) {
		t.Errorf("Write(State{}, nil) = %v", got)
	}
}

// P4.1: just a block is mixed in, and nothing is left over, wherever Buf ends and b begins.
func TestWriteBlock(t *testing.T) {
	all := some(64)
	want := State{H: block.Mix(someWords, [64]byte(all)), N: 64}
	for ahead := range 64 {
		if got := Write(State{someWords, all[:ahead], ahead}, all[ahead:]); !same(got, want) {
			t.Errorf("a block, %d octets of it ahead: %v, want %v", ahead, got, want)
		}
	}
	// Two blocks are mixed in one behind the other.
	two := some(130)
	want = State{block.Mix(block.Mix(someWords, [64]byte(two)), [64]byte(two[64:])), two[128:], 130}
	if got := Write(State{H: someWords}, two); !same(got, want) {
		t.Errorf("two blocks and two octets: %v, want %v", got, want)
	}
}

// P4.1: of a Buf that does not go with N, or of an H of zeros, the words say the same.
func TestWriteAnyState(t *testing.T) {
	for _, s := range soundStates() {
		for _, n := range lengths {
			if got, want := Write(s, some(n)), slowWrite(s, some(n)); !same(got, want) {
				t.Errorf("Write of %d octets behind %d, N %d: %v, want %v", n, len(s.Buf), s.N, got, want)
			}
		}
	}
}

// P4.1: N may become 2^50; above that the answer is New(), without the octets.
func TestWriteLimit(t *testing.T) {
	for _, n := range []int{0, 1, 63, 64, 65, 200} {
		s := State{H: someWords, Buf: some(10), N: most - n}
		got := Write(s, some(n))
		if got.N != most || !same(got, slowWrite(s, some(n))) {
			t.Errorf("Write of %d octets that leads to 2^50: %v", n, got)
		}
		for _, more := range []int{1, 2, 64, 100} {
			if got := Write(s, some(n+more)); !same(got, New()) {
				t.Errorf("Write of %d octets that leads %d above 2^50: %v", n+more, more, got)
			}
		}
	}
}

// Words: of a Buf of 64 octets or more, or an N below 0 or above 2^50, all calls take New().
func TestWrongStates(t *testing.T) {
	for i, s := range wrongStates() {
		for _, n := range lengths {
			want := State{H: block.First(), Buf: some(n)[n/64*64:], N: n}
			for at := range n / 64 {
				want.H = block.Mix(want.H, [64]byte(some(n)[64*at:]))
			}
			if got := Write(s, some(n)); !same(got, want) {
				t.Errorf("Write of %d octets, wrong state %d: %v, want %v", n, i, got, want)
			}
		}
		if got, want := Done(s), sha256.Sum256(nil); !bytes.Equal(got, want[:]) {
			t.Errorf("Done, wrong state %d: %x", i, got)
		}
	}
}

// Words: a Buf of 63 octets, and an N of 0 or 2^50, are taken as they are.
func TestRightStates(t *testing.T) {
	for _, s := range []State{{someWords, some(63), 63}, {someWords, some(63), 0}, {someWords, nil, 0}, {someWords, nil, most}, {someWords, some(63), most}, {someWords, []byte{}, most}} {
		if got := Write(s, nil); !same(got, s) {
			t.Errorf("Write of nothing: %v, want %v", got, s)
		}
	}
}

// P4.2: Pad at the edges, octet by octet.
func TestPad(t *testing.T) {
	zeros := func(n int, end ...byte) []byte { return slices.Concat([]byte{128}, make([]byte, n), end) }
	for _, p := range []struct {
		n    int
		want []byte
	}{
		{0, zeros(55, 0, 0, 0, 0, 0, 0, 0, 0)},
		{1, zeros(54, 0, 0, 0, 0, 0, 0, 0, 8)},
		{54, zeros(1, 0, 0, 0, 0, 0, 0, 1, 176)},
		{55, zeros(0, 0, 0, 0, 0, 0, 0, 1, 184)},
		{56, zeros(63, 0, 0, 0, 0, 0, 0, 1, 192)},
		{57, zeros(62, 0, 0, 0, 0, 0, 0, 1, 200)},
		{63, zeros(56, 0, 0, 0, 0, 0, 0, 1, 248)},
		{64, zeros(55, 0, 0, 0, 0, 0, 0, 2, 0)},
		{119, zeros(0, 0, 0, 0, 0, 0, 0, 3, 184)},
		{120, zeros(63, 0, 0, 0, 0, 0, 0, 3, 192)},
		{1<<29 - 1, zeros(56, 0, 0, 0, 0, 255, 255, 255, 248)},
		{1 << 29, zeros(55, 0, 0, 0, 1, 0, 0, 0, 0)},
		{0x2468acf13579b, zeros(28, 0, 18, 52, 86, 120, 154, 188, 216)},
		{most - 1, zeros(56, 0, 31, 255, 255, 255, 255, 255, 248)},
		{most, zeros(55, 0, 32, 0, 0, 0, 0, 0, 0)},
	} {
		if got := Pad(p.n); !bytes.Equal(got, p.want) {
			t.Errorf("Pad(%d) = %d, want %d", p.n, got, p.want)
		}
	}
	for _, n := range []int{-1, -8, -64, -most, math.MinInt, math.MinInt + 1, most + 1, most + 64, 1 << 51, 1 << 60, math.MaxInt - 9, math.MaxInt} {
		if got := Pad(n); len(got) != 0 {
			t.Errorf("Pad(%d) = %d", n, got)
		}
	}
}

// P4.2: Pad at all numbers of some blocks, and at both sides of each power of two.
func TestPadAll(t *testing.T) {
	check := func(n int) {
		if got := Pad(n); !bytes.Equal(got, slowPad(n)) {
			t.Errorf("Pad(%d) = %d", n, got)
		}
	}
	for n := -10; n < 1000; n++ {
		check(n)
	}
	for i := range 63 {
		for off := -70; off <= 70; off++ {
			check(1<<i + off)
		}
	}
}

// P4.2: the chapter's examples, and sums that are well known.
func TestSumExamples(t *testing.T) {
	for of, want := range map[string]string{
		"":    "e3b0c44298fc1c149afbf4c8996fb92427ae41e4649b934ca495991b7852b855",
		"abc": "ba7816bf8f01cfea414140de5dae2223b00361a396177a9cb410ff61f20015ad",
		"abcdbcdecdefdefgefghfghighijhijkijkljklmklmnlmnomnopnopq":                                                         "248d6a61d20638b8e5c026930c3e6039a33ce45964ff2167f6ecedd419db06c1",
		"abcdefghbcdefghicdefghijdefghijkefghijklfghijklmghijklmnhijklmnoijklmnopjklmnopqklmnopqrlmnopqrsmnopqrstnopqrstu": "cf5b16a778af8380036ce59e7b0492370b249b11e8f07a51afac45037afee9d1",
	} {
		if got := hex.EncodeToString(Sum([]byte(of))); got != want {
			t.Errorf("Sum(%q) = %s, want %s", of, got, want)
		}
		if got := hex.EncodeToString(Done(Write(New(), []byte(of)))); got != want {
			t.Errorf("Done behind %q = %s, want %s", of, got, want)
		}
	}
	if got := Sum(nil)[:4]; !bytes.Equal(got, []byte{227, 176, 196, 66}) {
		t.Errorf("Sum(nil) begins with %d", got)
	}
	if got := Sum([]byte("abc"))[:4]; !bytes.Equal(got, []byte{186, 120, 22, 191}) {
		t.Errorf("Sum(abc) begins with %d", got)
	}
	million := bytes.Repeat([]byte("a"), 1000000)
	if got := hex.EncodeToString(Sum(million)); got != "cdc76e5c9914fb9281a1c7e284d73e67f1809a48a497200e046d39ccc7112cd0" {
		t.Errorf("a million times a: %s", got)
	}
}

// P4.2: Sum and Done at all lengths of some blocks, those around the multiples of 64 among them.
func TestSumLengths(t *testing.T) {
	for n := range 64*10 + 2 {
		for _, b := range [][]byte{make([]byte, n), some(n), bytes.Repeat([]byte{255}, n)} {
			want := sha256.Sum256(b)
			if got := Sum(b); !bytes.Equal(got, want[:]) {
				t.Errorf("Sum of %d octets: %x, want %x", n, got, want)
			}
			if got := Done(Write(New(), b)); !bytes.Equal(got, want[:]) {
				t.Errorf("Done behind %d octets: %x, want %x", n, got, want)
			}
		}
	}
}

// P4.2: Done of any state is the octets of H of Write(s, Pad(N)): 32, the highest first.
func TestDone(t *testing.T) {
	for _, s := range soundStates() {
		got := Done(s)
		if len(got) != 32 || !bytes.Equal(got, slowDone(s)) {
			t.Errorf("Done, %d octets in Buf, N %d: %x, want %x", len(s.Buf), s.N, got, slowDone(s))
		}
	}
	// Pad(55) behind an empty Buf is no whole block: the words are those of the state.
	want := []byte{0, 0, 0, 0, 0, 0, 0, 1, 128, 0, 0, 0, 255, 255, 255, 255, 1, 35, 69, 103, 137, 171, 205, 239, 0, 0, 0, 42, 254, 220, 186, 152}
	if got := Done(State{H: someWords, N: 55}); !bytes.Equal(got, want) {
		t.Errorf("Done without a whole block: %d", got)
	}
}

// P4.2: near 2^50 Done says what Write says: Pad may lead to 2^50, and above that the words are those of New().
func TestDoneLimit(t *testing.T) {
	first := slowDone(State{H: block.First(), N: 55})
	for n := most - 200; n <= most; n++ {
		s := State{H: someWords, Buf: some(n % 64), N: n}
		got := Done(s)
		if !bytes.Equal(got, slowDone(s)) {
			t.Errorf("Done at N 2^50 - %d: %x", most-n, got)
		}
		if above := n > most-9; bytes.Equal(got, first) != above {
			t.Errorf("Done at N 2^50 - %d: New() is %t", most-n, !above)
		}
	}
}

// P4.3: in one piece, octet by octet, cut at every place.
func TestPieces(t *testing.T) {
	for _, n := range []int{0, 1, 2, 55, 56, 63, 64, 65, 119, 120, 127, 128, 129, 200} {
		b := some(n)
		all := Write(New(), b)
		s := New()
		for i := range b {
			s = Write(s, b[i:i+1])
			s = Write(s, nil)
		}
		if !same(s, all) || !bytes.Equal(Done(s), Sum(b)) {
			t.Errorf("%d octets one by one: %v, want %v", n, s, all)
		}
		for i := range n + 1 {
			if s := Write(Write(New(), b[:i]), b[i:]); !same(s, all) || !bytes.Equal(Done(s), Sum(b)) {
				t.Errorf("%d octets cut at %d: %v, want %v", n, i, s, all)
			}
			for j := i; j <= n; j++ {
				if s := Write(Write(Write(New(), b[:i]), b[i:j]), b[j:]); !same(s, all) {
					t.Errorf("%d octets cut at %d and %d: %v, want %v", n, i, j, s, all)
				}
			}
		}
	}
}

// P4.3: pieces of one length each, all of them.
func TestEvenPieces(t *testing.T) {
	b := some(500)
	want := sha256.Sum256(b)
	for k := 1; k <= len(b); k++ {
		s := New()
		for piece := range slices.Chunk(b, k) {
			s = Write(s, piece)
		}
		if got := Done(s); !bytes.Equal(got, want[:]) || s.N != len(b) {
			t.Errorf("pieces of %d octets: %x, N %d", k, got, s.N)
		}
	}
}

// room are n octets with room behind them, and a look at that room.
func room(n int) (b, behind []byte) {
	all := append(some(n), bytes.Repeat([]byte{99}, 200)...)
	return all[:n], all[n:]
}

// R3: the octets, the state and the room behind both stay as they are.
func TestLeavesWhatIsGiven(t *testing.T) {
	untouched := bytes.Repeat([]byte{99}, 200)
	for _, ahead := range []int{0, 1, 30, 55, 56, 63, 64, 100} {
		for _, n := range lengths {
			buf, behindBuf := room(ahead)
			b, behind := room(n)
			s := State{someWords, buf, ahead}
			Write(s, b)
			Done(s)
			Sum(b)
			if !same(s, State{someWords, some(ahead), ahead}) || !bytes.Equal(b, some(n)) {
				t.Errorf("%d octets behind %d: what was given has changed", n, ahead)
			}
			if !bytes.Equal(behindBuf, untouched) || !bytes.Equal(behind, untouched) {
				t.Errorf("%d octets behind %d: the room behind has changed", n, ahead)
			}
		}
	}
}

// R3: Buf and b may be pieces of one row, one in front of the other or the same.
func TestSharedMemory(t *testing.T) {
	all := some(300)
	for _, s := range []State{{someWords, all[:40], 40}, {someWords, all[20:60], 40}, {someWords, all[260:], 40}} {
		want := slowWrite(State{s.H, bytes.Clone(s.Buf), s.N}, some(300))
		if got := Write(s, all); !same(got, want) || !bytes.Equal(all, some(300)) {
			t.Errorf("Write of a row that Buf is a piece of: %v, want %v", got, want)
		}
	}
}

// R3: what is made of a state leaves it as it was, and what else was made of it.
func TestOneStateTwice(t *testing.T) {
	for n := range 130 {
		s := Write(New(), some(n))
		kept := State{s.H, bytes.Clone(s.Buf), s.N}
		a, b := Write(s, []byte("aa")), Write(s, []byte("bbb"))
		sum := Done(s)
		c := Write(s, some(100))
		if !same(s, kept) {
			t.Errorf("the state behind %d octets has changed", n)
		}
		for _, m := range []struct {
			s State
			b []byte
		}{{a, []byte("aa")}, {b, []byte("bbb")}, {c, some(100)}, {s, nil}} {
			want := sha256.Sum256(append(some(n), m.b...))
			if got := Done(m.s); !bytes.Equal(got, want[:]) {
				t.Errorf("%d octets and %d: %x, want %x", n, len(m.b), got, want)
			}
		}
		if !bytes.Equal(sum, Done(s)) {
			t.Errorf("the sum of %d octets has changed", n)
		}
	}
}

// LANGUAGE 7: what is left over is not the memory of b or of the Buf ahead.
func TestNewMemory(t *testing.T) {
	for _, ahead := range []int{0, 1, 63} {
		for _, n := range lengths {
			buf, b := some(ahead), some(n)
			s := Write(State{someWords, buf, ahead}, b)
			kept := bytes.Clone(s.Buf)
			clear(buf)
			clear(b)
			if !bytes.Equal(s.Buf, kept) {
				t.Errorf("%d octets behind %d: Buf shares memory", n, ahead)
			}
		}
	}
}

// Of whatever state and octets: what the chapter says, in whichever pieces.
func checkAll(t *testing.T, s State, b []byte, at int) {
	t.Helper()
	if got, want := Write(s, b), slowWrite(s, b); !same(got, want) {
		t.Fatalf("Write(%v, %d) = %v, want %v", s, b, got, want)
	}
	if got, want := Done(s), slowDone(s); !bytes.Equal(got, want) {
		t.Fatalf("Done(%v) = %x, want %x", s, got, want)
	}
	if got, want := Pad(s.N), slowPad(s.N); !bytes.Equal(got, want) {
		t.Fatalf("Pad(%d) = %d, want %d", s.N, got, want)
	}
	at = int(uint(at) % uint(len(b)+1))
	want := sha256.Sum256(b)
	if got := Done(Write(Write(New(), b[:at]), b[at:])); !bytes.Equal(got, want[:]) || !bytes.Equal(Sum(b), want[:]) {
		t.Fatalf("the sum of %d, cut at %d: %x, want %x", b, at, got, want)
	}
}

// P1: at all arguments of the tests, and at those that the fuzzer finds.
func FuzzAll(f *testing.F) {
	for _, s := range slices.Concat(soundStates(), wrongStates()) {
		f.Add(s.H[0], s.H[7], s.Buf, s.N, some(s.N&127), s.N>>3)
	}
	f.Add(uint32(1), uint32(2), []byte(nil), math.MinInt, []byte(nil), math.MinInt)
	f.Fuzz(func(t *testing.T, first, last uint32, buf []byte, n int, b []byte, at int) {
		checkAll(t, State{[8]uint32{0: first, 7: last}, buf, n}, b, at)
	})
}
