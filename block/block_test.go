package block

import (
	"crypto/sha256"
	"encoding/binary"
	"math/big"
	"testing"
)

// The words below are told a second time and bit by bit, as the chapter's section 'Words' says them, so that a slip in block.go is not made here as well.

// bit is bit i of a word, the lowest being 0.
func bit(x uint32, i int) uint32 { return x / (1 << i) % 2 }

// slowTurned lays the lowest n bits on top, one by one.
func slowTurned(x uint32, n int) uint32 {
	for range n {
		x = x/2 + bit(x, 0)*(1<<31)
	}
	return x
}

// slowMoved loses the lowest n bits, one by one.
func slowMoved(x uint32, n int) uint32 {
	for range n {
		x /= 2
	}
	return x
}

// byBits is the word each of whose bits is told by how many of the words have a 1 there.
func byBits(is func(ones uint32) bool, words ...uint32) uint32 {
	var out uint32
	for i := range 32 {
		var ones uint32
		for _, x := range words {
			ones += bit(x, i)
		}
		if is(ones) {
			out += 1 << i
		}
	}
	return out
}

// unlike are the unlike bits of some words.
func unlike(words ...uint32) uint32 {
	return byBits(func(ones uint32) bool { return ones%2 == 1 }, words...)
}

// twoOrThree are the bits that two or three of three words have.
func twoOrThree(a, b, c uint32) uint32 {
	return byBits(func(ones uint32) bool { return ones >= 2 }, a, b, c)
}

// slowChosen are the bits of f where e has a 1, and of g where it has a 0.
func slowChosen(e, f, g uint32) uint32 {
	var out uint32
	for i := range 32 {
		from := g
		if bit(e, i) == 1 {
			from = f
		}
		out += bit(from, i) << i
	}
	return out
}

// sum goes around from 2^32 - 1 to 0.
func sum(words ...uint32) uint32 {
	var s uint64
	for _, x := range words {
		s += uint64(x)
	}
	return uint32(s % (1 << 32))
}

// ahead is what P3.2 says of word t, 16 or more, by the words ahead.
func ahead(w [64]uint32, t int) uint32 {
	x, y := w[t-15], w[t-2]
	return sum(w[t-16], unlike(slowTurned(x, 7), slowTurned(x, 18), slowMoved(x, 3)), w[t-7], unlike(slowTurned(y, 17), slowTurned(y, 19), slowMoved(y, 10)))
}

// slowSpread is P3.2.
func slowSpread(b [64]byte) [64]uint32 {
	var w [64]uint32
	for t := range 16 {
		for _, octet := range b[4*t : 4*t+4] {
			w[t] = w[t]*256 + uint32(octet)
		}
	}
	for t := 16; t < 64; t++ {
		w[t] = ahead(w, t)
	}
	return w
}

// partP is p of P3.3, but for z.
func partP(e, f, g, number, word uint32) uint32 {
	return sum(unlike(slowTurned(e, 6), slowTurned(e, 11), slowTurned(e, 25)), slowChosen(e, f, g), number, word)
}

// partQ is q of P3.3.
func partQ(a, b, c uint32) uint32 {
	return sum(unlike(slowTurned(a, 2), slowTurned(a, 13), slowTurned(a, 22)), twoOrThree(a, b, c))
}

// slowSteps are the eight words a to g and z of P3.3 behind the sixty-four steps, before h is added.
func slowSteps(h [8]uint32, octets [64]byte) [8]uint32 {
	w, n := slowSpread(octets), roots(3, 64)
	a, b, c, d, e, f, g, z := h[0], h[1], h[2], h[3], h[4], h[5], h[6], h[7]
	for t := range 64 {
		p := sum(z, partP(e, f, g, n[t], w[t]))
		q := partQ(a, b, c)
		z = g
		g = f
		f = e
		e = sum(d, p)
		d = c
		c = b
		b = a
		a = sum(p, q)
	}
	return [8]uint32{a, b, c, d, e, f, g, z}
}

// undone are the eight words ahead of the sixty-four steps, of those behind them.
func undone(end [8]uint32, octets [64]byte) [8]uint32 {
	w, n := slowSpread(octets), roots(3, 64)
	for t := 63; t >= 0; t-- {
		a, b, c, e, f, g := end[1], end[2], end[3], end[5], end[6], end[7]
		p := end[0] - partQ(a, b, c)
		end = [8]uint32{a, b, c, end[4] - p, e, f, g, p - partP(e, f, g, n[t], w[t])}
	}
	return end
}

// slowMix is P3.3.
func slowMix(h [8]uint32, b [64]byte) [8]uint32 {
	for i, x := range slowSteps(h, b) {
		h[i] = sum(h[i], x)
	}
	return h
}

// kept are the roots that were drawn already: they are asked for at every block.
var kept = map[int][]uint32{}

// roots are the first 32 bits behind the point of the square (2) or cube (3) roots of the first primes, which is where the chapter's numbers come from.
func roots(power, count int) []uint32 {
	if len(kept[power]) >= count {
		return kept[power][:count]
	}
	var out []uint32
	for prime := int64(2); len(out) < count; prime++ {
		if big.NewInt(prime).ProbablyPrime(0) {
			out = append(out, root(prime, power))
		}
	}
	kept[power] = out
	return out
}

// root is the greatest number whose power is not above prime, with 32 bits behind the point, and of it these bits alone.
func root(prime int64, power int) uint32 {
	most := new(big.Int).Lsh(big.NewInt(prime), uint(32*power))
	r := new(big.Int)
	for i := 39; i >= 0; i-- {
		r.SetBit(r, i, 1)
		if new(big.Int).Exp(r, big.NewInt(int64(power)), nil).Cmp(most) > 0 {
			r.SetBit(r, i, 0)
		}
	}
	return uint32(r.Uint64() % (1 << 32))
}

// octetsOf are sixty-four octets, told by a rule.
func octetsOf(rule func(i int) byte) [64]byte {
	var b [64]byte
	for i := range b {
		b[i] = rule(i)
	}
	return b
}

// one is the octet at its own place, and 0 elsewhere.
func one(here bool, octet byte) byte {
	if here {
		return octet
	}
	return 0
}

// wordsOf are eight words, told by a rule.
func wordsOf(rule func(i int) uint32) [8]uint32 {
	var h [8]uint32
	for i := range h {
		h[i] = rule(i)
	}
	return h
}

// The octets of most tests: all 0, all 255, and all unlike, rising and falling.
var (
	noOctets   = [64]byte{}
	allOctets  = octetsOf(func(int) byte { return 255 })
	rising     = octetsOf(func(i int) byte { return byte(i) })
	falling    = octetsOf(func(i int) byte { return byte(255 - 3*i) })
	someOctets = [][64]byte{noOctets, allOctets, rising, falling, {128}, {63: 1}}
)

// The words of most tests: all 0, all 2^32 - 1, and all unlike.
var (
	noWords     = [8]uint32{}
	allWords    = wordsOf(func(int) uint32 { return 1<<32 - 1 })
	unlikeWords = wordsOf(func(i int) uint32 { return 0x01234567 + uint32(i)*0x11111111 })
	someWords   = [][8]uint32{noWords, allWords, unlikeWords, First(), {1}, {7: 1 << 31}}
)

// P3.1: the eight words, at each call.
func TestFirst(t *testing.T) {
	want := [8]uint32{1779033703, 3144134277, 1013904242, 2773480762, 1359893119, 2600822924, 528734635, 1541459225}
	for range 2 {
		got := First()
		if got != want {
			t.Errorf("First() = %d", got)
		}
		// What is made of an answer is not seen by the next one who asks.
		got[0], got[7] = 0, 0
	}
	for i, r := range roots(2, 8) {
		if want[i] != r {
			t.Errorf("word %d is %d, but the root is %d", i, want[i], r)
		}
	}
}

// P3.3: the sixty-four numbers, some as they are written in the chapter, all as roots.
func TestNumbers(t *testing.T) {
	for at, want := range map[int]uint32{0: 1116352408, 1: 1899447441, 15: 3248222580, 16: 3835390401, 30: 113926993, 31: 338241895, 32: 666307205, 47: 275423344, 48: 430227734, 62: 3204031479, 63: 3329325298} {
		if numbers[at] != want {
			t.Errorf("number %d is %d, want %d", at, numbers[at], want)
		}
	}
	for i, r := range roots(3, 64) {
		if numbers[i] != r {
			t.Errorf("number %d is %d, want %d", i, numbers[i], r)
		}
	}
}

// P3.2: the words 0 to 15 are the octets, four by four, the highest first.
func TestSpreadOctets(t *testing.T) {
	for _, s := range []struct {
		b           [64]byte
		first, more uint32
	}{
		{noOctets, 0, 0},
		{allOctets, 1<<32 - 1, 0},
		{rising, 0x00010203, 0x04040404},
		{octetsOf(func(i int) byte { return byte(255 - i) }), 0xfffefdfc, 0xfbfbfbfc},
	} {
		w := Spread(s.b)
		for i := range 16 {
			if want := s.first + uint32(i)*s.more; w[i] != want {
				t.Errorf("word %d of %d is %#x, want %#x", i, s.b, w[i], want)
			}
		}
	}
}

// P3.2: one octet is seen in one of the words 0 to 15 alone, at its place.
func TestSpreadOneOctet(t *testing.T) {
	for i := range 64 {
		w := Spread(octetsOf(func(j int) byte { return one(i == j, 0xa5) }))
		for at := range 16 {
			var want uint32
			if at == i/4 {
				want = 0xa5 << (8 * (3 - i%4))
			}
			if w[at] != want {
				t.Errorf("octet %d: word %d is %#x, want %#x", i, at, w[at], want)
			}
		}
	}
}

// P3.2: each word from 16 on is what is said of the words ahead.
func TestSpreadAhead(t *testing.T) {
	check := func(b [64]byte) {
		t.Helper()
		w := Spread(b)
		for at := 16; at < 64; at++ {
			if want := ahead(w, at); w[at] != want {
				t.Errorf("word %d of %d is %#x, want %#x", at, b, w[at], want)
			}
		}
	}
	for _, b := range someOctets {
		check(b)
	}
	for i := range 64 {
		check(octetsOf(func(j int) byte { return byte(i * j * 37) }))
		check(octetsOf(func(j int) byte { return one(i == j, 1) }))
		check(octetsOf(func(j int) byte { return one(i == j, 128) }))
	}
}

// P3.2: words from 16 on, worked out by hand; of octets 255 the sums go around.
func TestSpreadByHand(t *testing.T) {
	if w := Spread(noOctets); w != [64]uint32{} {
		t.Errorf("octets 0: %#x", w)
	}
	// 2^32 - 1 twice, 2^29 - 1 and 2^22 - 1.
	if w := Spread(allOctets); w[16] != 0x203ffffc {
		t.Errorf("octets 255: word 16 is %#x", w[16])
	}
	// A bit in word 0 alone comes into word 16 as it is, and into word 18 turned by 17 and by 19, and moved by 10.
	if w := Spread([64]byte{3: 1}); w[16] != 1 || w[17] != 0 || w[18] != 1<<15|1<<13 {
		t.Errorf("a bit in word 0: %#x", w[16:19])
	}
	// A bit in word 1 alone comes into word 16 turned by 7 and by 18 (moved by 3 it is lost), and into word 17 as it is.
	if w := Spread([64]byte{7: 1}); w[16] != 1<<25|1<<14 || w[17] != 1 {
		t.Errorf("a bit in word 1: %#x", w[16:18])
	}
	// A bit in word 9 alone comes into word 16 as it is.
	if w := Spread([64]byte{36: 128}); w[16] != 1<<31 || w[17] != 0 {
		t.Errorf("a bit in word 9: %#x", w[16:18])
	}
	// The lowest bit of word 14 alone comes into word 16 turned by 17 and by 19; the highest one is moved as well.
	if w := Spread([64]byte{59: 1}); w[16] != 1<<15|1<<13 {
		t.Errorf("the lowest bit of word 14: %#x", w[16])
	}
	if w := Spread([64]byte{56: 128}); w[16] != 1<<14|1<<12|1<<21 {
		t.Errorf("the highest bit of word 14: %#x", w[16])
	}
}

// P3.3: the chapter's example, and a second block that is well known.
func TestMixExample(t *testing.T) {
	if h := Mix(First(), [64]byte{128}); h != [8]uint32{3820012610, 0x98fc1c14, 0x9afbf4c8, 0x996fb924, 0x27ae41e4, 0x649b934c, 0xa495991b, 0x7852b855} {
		t.Errorf("of no octets: %#x", h)
	}
	if h := Mix(First(), [64]byte{'a', 'b', 'c', 128, 63: 24}); h != [8]uint32{0xba7816bf, 0x8f01cfea, 0x414140de, 0x5dae2223, 0xb00361a3, 0x96177a9c, 0xb410ff61, 0xf20015ad} {
		t.Errorf("of abc: %#x", h)
	}
}

// P3.3: words h that are all 0, all 2^32 - 1 and unlike.
func TestMixWords(t *testing.T) {
	for _, m := range []struct {
		h    [8]uint32
		b    [64]byte
		want [8]uint32
	}{
		{noWords, noOctets, [8]uint32{0x7ca51614, 0x425c3ba8, 0xce54dd2f, 0xc2020ae7, 0xb6e574d1, 0x98136d0f, 0xae7e26cc, 0xbf0be7a6}},
		{noWords, allOctets, [8]uint32{0x5081b30e, 0xfa9924a2, 0x8412d8aa, 0x28bb0c93, 0xda147a5a, 0xd8e1f92b, 0x5af1210d, 0x57081603}},
		{noWords, rising, [8]uint32{0xc6e08a73, 0xd0f4b2c6, 0x53130b1f, 0xaeb6b36d, 0x3429ef95, 0x73fd6544, 0x1640f295, 0x7f4c8e38}},
		{allWords, noOctets, [8]uint32{0x25260809, 0x56c94ba8, 0xe7d6dd48, 0x222df1d3, 0xf914c4b0, 0xb823beb6, 0xe8cebb7a, 0xddcdff59}},
		{allWords, allOctets, [8]uint32{0x0598127a, 0xaf11706e, 0x77401fff, 0xd730c549, 0x0b84c867, 0xa98c6ca3, 0xd7f3c0f9, 0x06a78b79}},
		{allWords, rising, [8]uint32{0x6bb65880, 0x161c8a6c, 0x41991093, 0x2003480d, 0x2c4b4ca2, 0x0e9c9532, 0x8a3b4efd, 0xb8e1a279}},
		{unlikeWords, noOctets, [8]uint32{0xba4f046d, 0x9a93b96f, 0xe3f9b393, 0xc1398a4f, 0x6ddfa06d, 0xbc193345, 0x3cab0043, 0xfd45fe27}},
		{unlikeWords, allOctets, [8]uint32{0x0d5460b3, 0x6163c2d7, 0x780e797d, 0xf3ba2bfb, 0x8ac88739, 0xee85bd3b, 0x7ee6e4a6, 0x3a9dba2f}},
		{unlikeWords, rising, [8]uint32{0x8278e0b3, 0x036f9297, 0x1fcaa379, 0x5c41ceac, 0x188af92d, 0xeda432ef, 0xa02ef055, 0x2576d70f}},
	} {
		if got := Mix(m.h, m.b); got != m.want {
			t.Errorf("Mix(%#x, %d) = %#x, want %#x", m.h, m.b, got, m.want)
		}
	}
}

// P3.3: what the chapter says step by step, of all words and octets of these tests.
func TestMixSteps(t *testing.T) {
	for _, h := range someWords {
		for _, b := range someOctets {
			if got, want := Mix(h, b), slowMix(h, b); got != want {
				t.Errorf("Mix(%#x, %d) = %#x, want %#x", h, b, got, want)
			}
		}
	}
}

// P3.3: at the end each sum goes around, and each stays below, for some words; both are told.
func TestMixGoesAround(t *testing.T) {
	var around, below [8]int
	for i := range 40 {
		h := wordsOf(func(j int) uint32 { return uint32(i*8+j) * 0x9e3779b1 })
		b := octetsOf(func(j int) byte { return byte(i + j*j) })
		got := Mix(h, b)
		for j, x := range slowSteps(h, b) {
			s := uint64(h[j]) + uint64(x)
			if s >= 1<<32 {
				around[j]++
				s -= 1 << 32
			} else {
				below[j]++
			}
			if uint64(got[j]) != s {
				t.Errorf("word %d of Mix(%#x, %d) is %#x, want %#x", j, h, b, got[j], s)
			}
		}
	}
	for j := range 8 {
		if around[j] == 0 || below[j] == 0 {
			t.Errorf("word %d goes around %d times and stays below %d times: this tests too little", j, around[j], below[j])
		}
	}
}

// P3.3: each bit of the octets is seen in what is mixed, and no two alike.
func TestMixOneOctet(t *testing.T) {
	for _, b := range [][64]byte{noOctets, rising} {
		seen := map[[8]uint32]bool{Mix(First(), b): true}
		for i := range 512 {
			other := b
			other[i/8] ^= 1 << (i % 8)
			got := Mix(First(), other)
			if seen[got] {
				t.Errorf("octet %d, bit %d: %#x was seen before", i/8, i%8, got)
			}
			seen[got] = true
			if want := slowMix(First(), other); got != want {
				t.Errorf("octet %d, bit %d: %#x, want %#x", i/8, i%8, got, want)
			}
		}
	}
}

// P3.3: each bit of the words is seen in what is mixed, and no two alike.
func TestMixOneWord(t *testing.T) {
	for _, h := range [][8]uint32{noWords, allWords, First()} {
		seen := map[[8]uint32]bool{Mix(h, rising): true}
		for i := range 256 {
			other := h
			other[i/32] ^= 1 << (i % 32)
			got := Mix(other, rising)
			if seen[got] {
				t.Errorf("word %d, bit %d: %#x was seen before", i/32, i%32, got)
			}
			seen[got] = true
			if want := slowMix(other, rising); got != want {
				t.Errorf("word %d, bit %d: %#x, want %#x", i/32, i%32, got, want)
			}
		}
	}
}

// less are words without what was added to them.
func less(words, added [8]uint32) [8]uint32 {
	for i, x := range added {
		words[i] -= x
	}
	return words
}

// P3.4: one that knows b comes from the eight words behind the sixty-four steps (Mix, less h, which is added at the end) back to h; with other octets one does not.
func TestMixUndone(t *testing.T) {
	for _, h := range someWords {
		for i, b := range someOctets {
			end := less(Mix(h, b), h)
			if got := undone(end, b); got != h {
				t.Errorf("%#x, mixed with %d, is undone to %#x", h, b, got)
			}
			if got := undone(end, someOctets[(i+1)%len(someOctets)]); got == h {
				t.Errorf("%#x, mixed with %d, is undone by other octets", h, b)
			}
		}
	}
}

// P3.4: any eight words are what the sixty-four steps make of some others, so that no two are mixed alike before h is added.
func TestMixFromTheEnd(t *testing.T) {
	for _, end := range someWords {
		for _, b := range someOctets {
			h := undone(end, b)
			if got := less(Mix(h, b), h); got != end {
				t.Errorf("%#x, undone with %d and mixed again, is %#x", end, b, got)
			}
		}
	}
}

// P3.1 to P3.3: block behind block is the sum that the library tells, too.
func TestMixBlocks(t *testing.T) {
	for n := range 200 {
		data := make([]byte, n)
		for i := range data {
			data[i] = byte(i*i + n)
		}
		h := First()
		for _, b := range padded(data) {
			h = Mix(h, b)
		}
		want := sha256.Sum256(data)
		for i, x := range h {
			if x != binary.BigEndian.Uint32(want[4*i:]) {
				t.Errorf("%d octets: word %d is %#x, want %x", n, i, x, want[4*i:4*i+4])
			}
		}
	}
}

// padded are octets as blocks, with what stands behind the last one of a sum.
func padded(data []byte) [][64]byte {
	all := append(append([]byte(nil), data...), 128)
	for len(all)%64 != 56 {
		all = append(all, 0)
	}
	all = binary.BigEndian.AppendUint64(all, uint64(8*len(data)))
	var out [][64]byte
	for ; len(all) > 0; all = all[64:] {
		out = append(out, [64]byte(all[:64]))
	}
	return out
}

// R3: the arrays that are handed in stay as they are, and what is made of an answer is not seen by the next one who asks.
func TestArraysStay(t *testing.T) {
	h, b := unlikeWords, rising
	w, m := Spread(b), Mix(h, b)
	if h != wordsOf(func(i int) uint32 { return 0x01234567 + uint32(i)*0x11111111 }) || b != octetsOf(func(i int) byte { return byte(i) }) {
		t.Fatalf("the arrays became %#x and %d", h, b)
	}
	clear(w[:])
	clear(m[:])
	if Spread(b) != slowSpread(b) || Mix(h, b) != slowMix(h, b) {
		t.Errorf("asked again, other words are told")
	}
}

// P1, P3.2 to P3.4: whatever the words and the octets are, both calls end and tell what the chapter says.
func FuzzMix(f *testing.F) {
	for _, b := range someOctets {
		f.Add(b[:32], b[:])
		f.Add(allOctets[:32], b[:])
	}
	f.Add([]byte(nil), []byte("short"))
	f.Fuzz(func(t *testing.T, words, octets []byte) {
		var w [32]byte
		copy(w[:], words)
		h := wordsOf(func(i int) uint32 { return binary.BigEndian.Uint32(w[4*i:]) })
		var b [64]byte
		copy(b[:], octets)
		if got, want := Spread(b), slowSpread(b); got != want {
			t.Fatalf("Spread(%d) = %#x, want %#x", b, got, want)
		}
		got := Mix(h, b)
		if want := slowMix(h, b); got != want {
			t.Fatalf("Mix(%#x, %d) = %#x, want %#x", h, b, got, want)
		}
		if back := undone(less(got, h), b); back != h {
			t.Fatalf("%#x, mixed with %d, is undone to %#x", h, b, back)
		}
	})
}
