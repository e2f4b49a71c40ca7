// Package varint is layer 1, how long something is: see shared/doc/01-varint.md.
package varint

import "cordwood/api"

// Most is the greatest number.
const Most = 1<<30 - 1

// The greatest numbers of one octet and of two.
const (
	mostOfOne = 1<<6 - 1
	mostOfTwo = 1<<14 - 1
)

// Size is how many octets a number has.
func Size(n int) int {
	switch {
	case n < 0 || n > Most:
		return 0
	case n <= mostOfOne:
		return 1
	case n <= mostOfTwo:
		return 2
	}
	return 4
}

// Put lays a number's octets behind others.
func Put(b []byte, n int) []byte {
	size := Size(n)
	if size == 0 {
		return b
	}
	// New memory even if b has room to spare: that room may hold what an earlier call answered.
	out := make([]byte, len(b), len(b)+size)
	copy(out, b)
	x := marked(n, size)
	switch size {
	case 4:
		out = append(out, byte(x>>24), byte(x>>16))
		fallthrough
	case 2:
		out = append(out, byte(x>>8))
		fallthrough
	case 1:
		out = append(out, byte(x))
	}
	return out
}

// marked is a number whose first octet, of so many, tells how many there are.
func marked(n, size int) uint32 {
	x := uint32(n)
	switch size {
	case 2:
		x += 64 << 8
	case 4:
		x += 128 << 24
	}
	return x
}

// Get is the number that octets begin with, and the rest.
func Get(b []byte) (int, []byte, api.Errno) {
	if len(b) == 0 {
		return 0, nil, api.ErrShort
	}
	size := told(b[0])
	if size == 0 {
		return 0, nil, api.ErrForm
	}
	if len(b) < size {
		return 0, nil, api.ErrShort
	}
	n := int(b[0] % 64)
	for _, octet := range b[1:size] {
		n = n<<8 + int(octet)
	}
	// One number, one form: else what is parsed would not be put as it was.
	if Size(n) != size {
		return 0, nil, api.ErrForm
	}
	return n, b[size:], api.OK
}

// told is how many octets a number has, by its first one; 0 if no number begins so.
func told(first byte) int {
	switch {
	case first < 64:
		return 1
	case first < 128:
		return 2
	case first < 192:
		return 4
	}
	return 0
}
