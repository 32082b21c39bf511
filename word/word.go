// Package word is layer 1: numbers of 32 bits that go round. See shared/doc/01-word.md.
package word

import "backstay/api"

// Do answers what the operation op makes of b and c; 0 and false, if op is none of this layer's.
func Do(op int, b, c uint32) (uint32, bool) {
	switch op {
	case api.Add:
		return b + c, true
	case api.Sub:
		return b - c, true
	case api.Mul:
		return b * c, true
	case api.And:
		return b & c, true
	case api.Xor:
		return b ^ c, true
	case api.Eq:
		return truth(b == c), true
	case api.Lt:
		return truth(b < c), true
	}
	return 0, false
}

// truth is how a core's register holds a yes or a no.
func truth(yes bool) uint32 {
	if yes {
		return 1
	}
	return 0
}

// Place answers where the number n lies in a memory of so many words; 0, if there are none.
func Place(n uint32, words int) int {
	if words < 1 {
		return 0
	}
	// In 64 bits, since words may be more than a number of 32 bits tells.
	return int(uint64(n) % uint64(words))
}

// Bytes answers the four bytes of n, the highest first.
func Bytes(n uint32) []byte {
	return []byte{byte(n >> 24), byte(n >> 16), byte(n >> 8), byte(n)}
}

// Of answers the number of the first four bytes of b, as if noughts stood behind it.
func Of(b []byte) uint32 {
	// copy takes as many as there are and leaves noughts for the rest.
	var four [4]byte
	copy(four[:], b)
	return uint32(four[0])<<24 | uint32(four[1])<<16 | uint32(four[2])<<8 | uint32(four[3])
}
