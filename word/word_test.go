package word_test

import (
	"bytes"
	"math"
	"math/big"
	"testing"

	"backstay/api"
	"backstay/word"
)

const top = math.MaxUint32

// numbers are those near which going round, the sign of a wrong kind of integer, or a byte's place would show.
var numbers = []uint32{
	0, 1, 2, 3, 7, 10, 12, 63, 64, 70, 255, 256, 65535, 65536, 65537, 1<<24 - 1, 1 << 24,
	0x01020304, 0x80706050, 0xdeadbeef, 1<<31 - 1, 1 << 31, 1<<31 + 1, top - 2, top - 1, top,
}

// round is x modulo 2^32, worked out without 32-bit arithmetic.
func round(x *big.Int) uint32 {
	return uint32(new(big.Int).Mod(x, big.NewInt(1<<32)).Uint64())
}

// bitwise makes a number bit by bit of b and c.
func bitwise(b, c uint32, f func(x, y bool) bool) uint32 {
	n := uint32(0)
	for i := range 32 {
		if f(b>>i&1 == 1, c>>i&1 == 1) {
			n |= 1 << i
		}
	}
	return n
}

// asked is what the document asks of an operation, told by other means than the program's.
func asked(op int, b, c uint32) (uint32, bool) {
	x, y := big.NewInt(int64(b)), big.NewInt(int64(c))
	switch op {
	case api.Add:
		return round(new(big.Int).Add(x, y)), true
	case api.Sub:
		return round(new(big.Int).Sub(x, y)), true
	case api.Mul:
		return round(new(big.Int).Mul(x, y)), true
	case api.And:
		return bitwise(b, c, func(x, y bool) bool { return x && y }), true
	case api.Xor:
		return bitwise(b, c, func(x, y bool) bool { return x != y }), true
	case api.Eq:
		if x.Cmp(y) == 0 {
			return 1, true
		}
		return 0, true
	case api.Lt:
		if x.Cmp(y) < 0 {
			return 1, true
		}
		return 0, true
	}
	return 0, false
}

// P1.1: Do, at answers worked out by hand.
func TestDoByHand(t *testing.T) {
	for _, c := range []struct {
		name    string
		op      int
		b, c, n uint32
	}{
		{"the document's example", api.Add, top, 3, 2},
		{"a sum", api.Add, 20, 22, 42},
		{"a sum that just goes round", api.Add, top, 1, 0},
		{"a sum that just does not", api.Add, top - 1, 1, top},
		{"b less c, not c less b", api.Sub, 22, 20, 2},
		{"less than nought", api.Sub, 0, 1, top},
		{"nought less the half", api.Sub, 0, 1 << 31, 1 << 31},
		{"a product", api.Mul, 6, 7, 42},
		{"a product that just goes round", api.Mul, 65536, 65536, 0},
		{"the greatest product", api.Mul, top, top, 1},
		{"and", api.And, 12, 10, 8},
		{"and of high bits", api.And, 0xf0f0f0f0, 0xff00ff00, 0xf000f000},
		{"xor", api.Xor, 12, 10, 6},
		{"xor of high bits", api.Xor, 0xf0f0f0f0, 0xff00ff00, 0x0ff00ff0},
		{"alike", api.Eq, top, top, 1},
		{"not alike", api.Eq, top, 0, 0},
		{"not alike in the highest bit", api.Eq, 1 << 31, 0, 0},
		{"below", api.Lt, 4, 5, 1},
		{"above", api.Lt, 5, 4, 0},
		{"not below itself", api.Lt, 5, 5, 0},
		{"numbers have no sign", api.Lt, 1, 1 << 31, 1},
		{"numbers have no sign, the other way", api.Lt, top, 0, 0},
	} {
		t.Run(c.name, func(t *testing.T) {
			if n, ok := word.Do(c.op, c.b, c.c); n != c.n || !ok {
				t.Errorf("Do(%d, %d, %d) = %d, %t; want %d, true", c.op, c.b, c.c, n, ok, c.n)
			}
		})
	}
}

// P1.1: Do, each operation at each pair of numbers, and each number around that is no operation of the layer.
func TestDoAtAllPairs(t *testing.T) {
	for op := -3; op <= api.Halt+3; op++ {
		for _, b := range numbers {
			for _, c := range numbers {
				want, wantOK := asked(op, b, c)
				if n, ok := word.Do(op, b, c); n != want || ok != wantOK {
					t.Fatalf("Do(%d, %d, %d) = %d, %t; want %d, %t", op, b, c, n, ok, want, wantOK)
				}
			}
		}
	}
}

// P1.1: Do answers 0 and false to what is no operation of the layer, also where a narrower integer would take it for one.
func TestDoOfOthers(t *testing.T) {
	for _, op := range []int{
		api.Set, api.Load, api.Store, api.Swap, api.Fence, api.Jump, api.Zero, api.Out, api.Halt,
		0, -api.Add, -api.Lt, 17, 100, 256 + api.Add, 65536 + api.Xor, math.MaxInt32, math.MinInt32, math.MaxInt, math.MinInt, math.MinInt + api.Add,
	} {
		if n, ok := word.Do(op, 12, 12); n != 0 || ok {
			t.Errorf("Do(%d, 12, 12) = %d, %t; want 0, false", op, n, ok)
		}
	}
}

// P1.1: Place is the rest; 0, if words is below 1.
func TestPlace(t *testing.T) {
	for _, c := range []struct {
		n           uint32
		words, want int
	}{
		{0, 1, 0}, {1, 1, 0}, {top, 1, 0},
		{70, 64, 6}, {63, 64, 63}, {64, 64, 0}, {65, 64, 1},
		{7, 3, 1}, {top, 10, 5}, {top, api.MaxMem, 63}, {1 << 31, 3, 2},
		{5, 1<<31 - 1, 5}, {top, 1<<31 - 1, 1}, {top, math.MaxInt32, 1},
		{7, 0, 0}, {7, -1, 0}, {7, -3, 0}, {top, -64, 0}, {top, math.MinInt32, 0}, {top, math.MinInt, 0},
	} {
		if got := word.Place(c.n, c.words); got != c.want {
			t.Errorf("Place(%d, %d) = %d; want %d", c.n, c.words, got, c.want)
		}
	}
}

// P1.1: Place, in a memory of more words than a number of 32 bits tells, is the number itself.
func TestPlaceInMuch(t *testing.T) {
	if math.MaxInt == math.MaxInt32 {
		t.Skip("no int is that great here")
	}
	full := uint32(top)
	much := int(full)
	for _, words := range []int{much + 1, much + 2, 2*much + 2, math.MaxInt} {
		for _, n := range numbers {
			if got := word.Place(n, words); got != int(n) {
				t.Errorf("Place(%d, %d) = %d; want %d", n, words, got, n)
			}
		}
	}
	if got := word.Place(top, much); got != 0 {
		t.Errorf("Place(%d, %d) = %d; want 0", uint32(top), much, got)
	}
}

// P1.1: Place, as counting round a memory tells it.
func TestPlaceByCounting(t *testing.T) {
	for words := 1; words <= api.MaxMem+1; words++ {
		at := 0
		for n := range uint32(3*api.MaxMem + 3) {
			if got := word.Place(n, words); got != at {
				t.Fatalf("Place(%d, %d) = %d; want %d", n, words, got, at)
			}
			if at++; at == words {
				at = 0
			}
		}
	}
}

// P1.1: Bytes are four, the highest first.
func TestBytes(t *testing.T) {
	for _, c := range []struct {
		n    uint32
		want []byte
	}{
		{0, []byte{0, 0, 0, 0}},
		{1, []byte{0, 0, 0, 1}},
		{256, []byte{0, 0, 1, 0}},
		{65536, []byte{0, 1, 0, 0}},
		{1 << 24, []byte{1, 0, 0, 0}},
		{0x01020304, []byte{1, 2, 3, 4}},
		{0x80706050, []byte{0x80, 0x70, 0x60, 0x50}},
		{top, []byte{255, 255, 255, 255}},
	} {
		if got := word.Bytes(c.n); !bytes.Equal(got, c.want) {
			t.Errorf("Bytes(%#x) = %v; want %v", c.n, got, c.want)
		}
	}
}

// Rule 3: each answer of Bytes is new memory.
func TestBytesAreNew(t *testing.T) {
	first := word.Bytes(0x01020304)
	second := word.Bytes(0x01020304)
	clear(first[:cap(first)])
	if third := word.Bytes(0x01020304); !bytes.Equal(second, []byte{1, 2, 3, 4}) || !bytes.Equal(third, second) {
		t.Errorf("after the first answer was cleared: %v, %v", second, third)
	}
}

// P1.1: Of reads the first four bytes, as if noughts stood behind them.
func TestOf(t *testing.T) {
	for _, c := range []struct {
		b    []byte
		want uint32
	}{
		{nil, 0},
		{[]byte{}, 0},
		{[]byte{1}, 0x01000000},
		{[]byte{255}, 0xff000000},
		{[]byte{1, 2}, 0x01020000},
		{[]byte{0, 0, 3}, 0x00000300},
		{[]byte{1, 2, 3}, 0x01020300},
		{[]byte{1, 2, 3, 4}, 0x01020304},
		{[]byte{0, 0, 0, 1}, 1},
		{[]byte{255, 255, 255, 255}, top},
		{[]byte{1, 2, 3, 4, 5}, 0x01020304},
		{[]byte{0, 0, 0, 0, 9, 9, 9, 9, 9}, 0},
		{bytes.Repeat([]byte{0xab}, 1000), 0xabababab},
	} {
		if got := word.Of(c.b); got != c.want {
			t.Errorf("Of(%v) = %#x; want %#x", c.b, got, c.want)
		}
	}
}

// Rule 3: Of neither reads nor changes what lies in the spare room, and changes nothing of what it is given.
func TestOfLeavesWhatItIsGiven(t *testing.T) {
	whole := []byte{9, 8, 7, 6, 5, 4}
	for many := range len(whole) + 1 {
		padded := append(bytes.Clone(whole[:many]), 0, 0, 0, 0)
		want := uint32(padded[0])*(1<<24) + uint32(padded[1])*(1<<16) + uint32(padded[2])*(1<<8) + uint32(padded[3])
		if got := word.Of(whole[:many]); got != want {
			t.Errorf("Of the first %d of %v = %#x; want %#x", many, whole, got, want)
		}
	}
	if !bytes.Equal(whole, []byte{9, 8, 7, 6, 5, 4}) {
		t.Errorf("what was given became %v", whole)
	}
}

// do is Do, of an operation that must be one.
func do(t *testing.T, op int, b, c uint32) uint32 {
	t.Helper()
	n, ok := word.Do(op, b, c)
	if !ok {
		t.Fatalf("Do(%d, %d, %d): no operation", op, b, c)
	}
	return n
}

// P1.2: Sub undoes Add, Xor itself.
func TestUndone(t *testing.T) {
	for _, b := range numbers {
		for _, c := range numbers {
			if n := do(t, api.Sub, do(t, api.Add, b, c), c); n != b {
				t.Errorf("%d, with %d added and taken off, is %d", b, c, n)
			}
			if n := do(t, api.Xor, do(t, api.Xor, b, c), c); n != b {
				t.Errorf("%d, with %d twice by Xor, is %d", b, c, n)
			}
		}
	}
}

// P1.2: what Bytes tells is what Of reads.
func TestToldAndRead(t *testing.T) {
	told := func(n uint32) {
		if got := word.Of(word.Bytes(n)); got != n {
			t.Fatalf("Of(Bytes(%#x)) = %#x", n, got)
		}
	}
	for _, n := range numbers {
		told(n)
	}
	for place := range 4 {
		for b := range 256 {
			told(uint32(b) << (8 * place))
			four := []byte{0x11, 0x22, 0x33, 0x44}
			four[place] = byte(b)
			if got := word.Bytes(word.Of(four)); !bytes.Equal(got, four) {
				t.Fatalf("Bytes(Of(%v)) = %v", four, got)
			}
		}
	}
	// A step that is odd, so that all bits vary.
	for n, i := uint32(0), 0; i < 100000; i++ {
		told(n)
		n += 0x9e3779b1
	}
}
