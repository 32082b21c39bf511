package frame_test

import (
	"bytes"
	"hash/crc32"
	"math"
	"slices"
	"testing"

	"backstay/api"
	"backstay/frame"
)

const (
	top  = math.MaxUint32
	body = 15
	size = 19
)

// kinds are the document's, in their order.
var kinds = []struct {
	name string
	kind int
}{
	{"GetS", 1}, {"GetM", 2}, {"Data", 3}, {"Inv", 4}, {"Ack", 5}, {"FwdS", 6},
	{"FwdM", 7}, {"Put", 8}, {"PutAck", 9}, {"Nack", 10}, {"Free", 11},
}

// far are numbers that are neither a Kind nor a byte, some of which a narrower integer would take for one.
var far = []int{-2, -11, -255, -256, 257, 300, 256 + 5, 65536, 65536 + 5, math.MaxInt32, math.MinInt32, math.MaxInt, math.MinInt, math.MinInt + 5}

// places are the five numbers of a message, each with where it stands in a frame.
var places = []struct {
	name string
	at   int
	of   func(m *api.Msg) *int
}{
	{"From", 1, func(m *api.Msg) *int { return &m.From }},
	{"To", 2, func(m *api.Msg) *int { return &m.To }},
	{"Line", 3, func(m *api.Msg) *int { return &m.Line }},
	{"For", 4, func(m *api.Msg) *int { return &m.For }},
	{"Acks", 5, func(m *api.Msg) *int { return &m.Acks }},
}

// plain is a message of which no two numbers, and no two bytes, are alike.
var plain = api.Msg{Kind: api.Data, From: 16, To: 32, Line: 48, For: 64, Acks: 80, Num: 0x91929394, Val: 0xa1a2a3a4}

// highest is the message of which all is as great as may be.
var highest = api.Msg{Kind: 11, From: 255, To: 255, Line: 255, For: 255, Acks: 255, Own: true, Num: top, Val: top}

// owned is m with that Own.
func owned(m api.Msg, own bool) api.Msg {
	m.Own = own
	return m
}

// summed is what the bytes b are with their sum behind them, told by the library's sum.
func summed(b ...byte) []byte {
	sum := crc32.ChecksumIEEE(b)
	return append(slices.Clone(b), byte(sum>>24), byte(sum>>16), byte(sum>>8), byte(sum))
}

// asked is the frame that the document asks of a message, told without the program's packages.
func asked(m api.Msg) []byte {
	b := []byte{byte(m.Kind), byte(m.From), byte(m.To), byte(m.Line), byte(m.For), byte(m.Acks), 0}
	if m.Own {
		b[6] = 1
	}
	for _, n := range []uint32{m.Num, m.Val} {
		b = append(b, byte(n>>24), byte(n>>16), byte(n>>8), byte(n))
	}
	return summed(b...)
}

// turned is b with one bit turned: of byte bit / 8 the one of the worth 2 to the bit % 8.
func turned(b []byte, bit int) []byte {
	b = slices.Clone(b)
	b[bit/8] ^= 1 << (bit % 8)
	return b
}

// lot gives numbers below n that look drawn, the same ones each time.
func lot(state uint64) func(n int) int {
	return func(n int) int {
		state = state*6364136223846793005 + 1442695040888963407
		return int(state>>33) % n
	}
}

// number is a drawn one of 32 bits that is not seldom an edge.
func number(draw func(n int) int) uint32 {
	if draw(3) == 0 {
		return []uint32{0, 1, 255, 256, 1 << 31, top}[draw(6)]
	}
	return uint32(draw(1<<16)<<16 | draw(1<<16))
}

// drawn is a message that may be.
func drawn(draw func(n int) int) api.Msg {
	m := api.Msg{Kind: 1 + draw(11), Own: draw(2) == 1, Num: number(draw), Val: number(draw)}
	for _, p := range places {
		*p.of(&m) = []int{0, 1, 254, 255, draw(256), draw(256)}[draw(6)]
	}
	return m
}

// messages are some of each sort that may be: each Kind, Own and not Own, the least, the highest, and drawn ones.
func messages() []api.Msg {
	var l []api.Msg
	for _, k := range kinds {
		m := plain
		m.Kind = k.kind
		l = append(l, owned(m, false), owned(m, true), api.Msg{Kind: k.kind})
	}
	l = append(l, highest)
	draw := lot(1)
	for range 200 {
		l = append(l, drawn(draw))
	}
	return l
}

// puts holds Put to laying m as the frame want.
func puts(t *testing.T, what string, m api.Msg, want []byte) {
	t.Helper()
	if got, err := frame.Put(m); err != api.OK || !bytes.Equal(got, want) {
		t.Errorf("%s: Put(%+v) = %v, %d; want %v, OK", what, m, got, err, want)
	}
}

// reads holds Read to reading m in b.
func reads(t *testing.T, what string, b []byte, m api.Msg) {
	t.Helper()
	if got, err := frame.Read(b); err != api.OK || got != m {
		t.Errorf("%s: Read(%v) = %+v, %d; want %+v, OK", what, b, got, err, m)
	}
}

// fails holds Read to no message, and that error.
func fails(t *testing.T, what string, b []byte, want api.Errno) {
	t.Helper()
	if got, err := frame.Read(b); err != want || got != (api.Msg{}) {
		t.Errorf("%s: Read(%v) = %+v, %d; want none, %d", what, b, got, err, want)
	}
}

// mayBe holds May, and Put by its error, to whether m may be.
func mayBe(t *testing.T, what string, m api.Msg, want bool) {
	t.Helper()
	if got := frame.May(m); got != want {
		t.Errorf("%s: May(%+v) = %t; want %t", what, m, got, want)
	}
	if want {
		puts(t, what, m, asked(m))
		return
	}
	if got, err := frame.Put(m); err != api.ErrArg || len(got) != 0 {
		t.Errorf("%s: Put(%+v) = %v, %d; want nothing, ErrArg", what, m, got, err)
	}
}

// P5.1: Sum, at sums that are known.
func TestSumByHand(t *testing.T) {
	for _, c := range []struct {
		name string
		b    []byte
		want uint32
	}{
		{"the document's example", []byte("123456789"), 0xCBF43926},
		{"no bytes", []byte{}, 0},
		{"nil", nil, 0},
		{"a nought", []byte{0}, 0xD202EF8D},
		{"a one", []byte{1}, 0xA505DF1B},
		{"the highest bit", []byte{128}, 0x3FBA6CAD},
		{"all bits", []byte{255}, 0xFF000000},
		{"a letter", []byte("a"), 0xE8B7BE43},
		{"three letters", []byte("abc"), 0x352441C2},
		{"two words", []byte("message digest"), 0x20159D7F},
		{"a sentence", []byte("The quick brown fox jumps over the lazy dog"), 0x414FA339},
		{"four noughts", make([]byte, 4), 0x2144DF1C},
		{"four of all bits", bytes.Repeat([]byte{255}, 4), 0xFFFFFFFF},
		{"32 noughts", make([]byte, 32), 0x190A55AD},
		{"32 of all bits", bytes.Repeat([]byte{255}, 32), 0xFF6CAB0B},
	} {
		if got := frame.Sum(c.b); got != c.want {
			t.Errorf("%s: Sum(%v) = %#x; want %#x", c.name, c.b, got, c.want)
		}
	}
}

// P5.1: Sum, as the library tells it: of each byte alone, of drawn bytes of each length to 300, and of many.
func TestSumByLibrary(t *testing.T) {
	holds := func(b []byte) {
		t.Helper()
		if got, want := frame.Sum(b), crc32.ChecksumIEEE(b); got != want {
			t.Fatalf("Sum of %d bytes = %#x; want %#x", len(b), got, want)
		}
	}
	for x := range 256 {
		holds([]byte{byte(x)})
	}
	draw := lot(2)
	for many := range 301 {
		b := make([]byte, many)
		holds(b)
		for i := range b {
			b[i] = byte(draw(256))
		}
		holds(b)
	}
	many := make([]byte, 1<<20)
	for i := range many {
		many[i] = byte(draw(256))
	}
	holds(many)
}

// P5.1: bytes with their sum behind them, the lowest byte first, have one sum all, which any other rule of halving or turning would miss.
func TestSumOfSummed(t *testing.T) {
	draw := lot(3)
	for many := range 64 {
		b := make([]byte, many)
		for i := range b {
			b[i] = byte(draw(256))
		}
		sum := frame.Sum(b)
		if got := frame.Sum(append(b, byte(sum), byte(sum>>8), byte(sum>>16), byte(sum>>24))); got != 0x2144DF1C {
			t.Errorf("%d bytes with their sum behind them: %#x", many, got)
		}
	}
}

// P5.1: May and Put, each Kind, and the numbers around that are none; Own and not Own.
func TestKinds(t *testing.T) {
	for i, k := range kinds {
		if k.kind != i+1 {
			t.Fatalf("%s is %d", k.name, k.kind)
		}
		for _, own := range []bool{false, true} {
			m := owned(plain, own)
			m.Kind = k.kind
			mayBe(t, k.name, m, true)
			mayBe(t, k.name+" alone", api.Msg{Kind: k.kind, Own: own}, true)
		}
	}
	for _, kind := range append([]int{0, -1, 12, 13, 16, 255, 256}, far...) {
		m := plain
		m.Kind = kind
		mayBe(t, "no Kind", m, false)
		mayBe(t, "no Kind alone", api.Msg{Kind: kind}, false)
	}
	mayBe(t, "nothing at all", api.Msg{}, false)
}

// P5.1: May and Put, each of the five numbers at and around its edges, in a message that is else right.
func TestNumbers(t *testing.T) {
	for _, p := range places {
		for _, m := range []api.Msg{plain, {Kind: api.GetS}, highest} {
			for _, n := range []int{0, 1, 2, 127, 128, 254, 255} {
				*p.of(&m) = n
				mayBe(t, p.name, m, true)
			}
			for _, n := range append([]int{-1, 256}, far...) {
				*p.of(&m) = n
				mayBe(t, p.name, m, false)
			}
		}
	}
}

// P5.1: May and Put ask each number apart: one that is wrong isn't made good by another one, nor by a Kind that is none.
func TestTwoWrongs(t *testing.T) {
	for i, p := range places {
		for k, q := range places {
			if i == k {
				continue
			}
			for _, n := range []int{-1, 256, -256} {
				m := plain
				*p.of(&m) = n
				*q.of(&m) = -n
				mayBe(t, p.name+" and "+q.name, m, false)
			}
		}
		for _, kind := range []int{0, 12} {
			m := plain
			m.Kind = kind
			*p.of(&m) = 256
			mayBe(t, p.name+" and Kind", m, false)
		}
	}
}

// P5.1: May and Put, Num and Val at any number.
func TestNumAndVal(t *testing.T) {
	numbers := []uint32{0, 1, 255, 256, 65535, 65536, 1<<24 - 1, 1 << 24, 1<<31 - 1, 1 << 31, top - 1, top}
	for _, num := range numbers {
		for _, val := range numbers {
			m := plain
			m.Num, m.Val = num, val
			mayBe(t, "Num and Val", m, true)
			b, _ := frame.Put(m)
			reads(t, "Num and Val", b, m)
		}
	}
}

// P5.1: Put, byte by byte, and Read of these bytes, their sums too told by hand.
func TestPutByHand(t *testing.T) {
	for _, c := range []struct {
		name string
		m    api.Msg
		b    []byte
	}{
		{"all unlike", plain, []byte{3, 16, 32, 48, 64, 80, 0, 0x91, 0x92, 0x93, 0x94, 0xa1, 0xa2, 0xa3, 0xa4, 0x37, 0xa4, 0xfe, 0x56}},
		{"all unlike, Own", owned(plain, true), []byte{3, 16, 32, 48, 64, 80, 1, 0x91, 0x92, 0x93, 0x94, 0xa1, 0xa2, 0xa3, 0xa4, 0x20, 0xdf, 0xea, 0x15}},
		{"the least", api.Msg{Kind: 1}, []byte{1, 0, 0, 0, 0, 0, 0, 0, 0, 0, 0, 0, 0, 0, 0, 0x6e, 0x28, 0xd8, 0x0f}},
		{"the highest", highest, []byte{11, 255, 255, 255, 255, 255, 1, 255, 255, 255, 255, 255, 255, 255, 255, 0x95, 0x39, 0xe0, 0x03}},
	} {
		puts(t, c.name, c.m, c.b)
		reads(t, c.name, c.b, c.m)
	}
}

// P5.1: Put, at messages of each sort, has 19 bytes, which are the document's.
func TestPut(t *testing.T) {
	for _, m := range messages() {
		puts(t, "a message", m, asked(m))
		if b, _ := frame.Put(m); len(b) != size {
			t.Errorf("Put(%+v) has %d bytes", m, len(b))
		}
	}
}

// P5.1: each thing of a message stands in its own bytes of the frame, and in no others but the sum's.
func TestPutPlaces(t *testing.T) {
	old, _ := frame.Put(plain)
	differs := func(name string, m api.Msg, first, behind int) {
		t.Helper()
		b, err := frame.Put(m)
		if err != api.OK || len(b) != size {
			t.Fatalf("%s: %v, %d", name, b, err)
		}
		for i := range body {
			if (b[i] != old[i]) != (first <= i && i < behind) {
				t.Errorf("%s: byte %d was %d, and is %d", name, i, old[i], b[i])
			}
		}
		if bytes.Equal(b[body:], old[body:]) {
			t.Errorf("%s: the sum stays", name)
		}
	}
	m := plain
	m.Kind = api.Free
	differs("Kind", m, 0, 1)
	for _, p := range places {
		m = plain
		*p.of(&m) = 200
		differs(p.name, m, p.at, p.at+1)
	}
	differs("Own", owned(plain, true), 6, 7)
	m = plain
	m.Num = ^m.Num
	differs("Num", m, 7, 11)
	m = plain
	m.Val = ^m.Val
	differs("Val", m, 11, 15)
}

// P5.1: Read, of each number of bytes but 19: ErrShort below, ErrLong above, whatever they are.
func TestReadOtherLengths(t *testing.T) {
	fails(t, "nil", nil, api.ErrShort)
	whole := asked(plain)
	much := bytes.Repeat(whole, 60)
	for many := range len(much) + 1 {
		want := api.ErrShort
		if many == size {
			continue
		}
		if many > size {
			want = api.ErrLong
		}
		fails(t, "frames", much[:many], want)
		fails(t, "noughts", make([]byte, many), want)
		if many >= 4 {
			fails(t, "a sum that fits", summed(much[:many-4]...), want)
		}
	}
	fails(t, "one byte less at the front", whole[1:], api.ErrShort)
	fails(t, "one byte more at the front", append([]byte{0}, whole...), api.ErrLong)
	fails(t, "very many", make([]byte, 1<<20), api.ErrLong)
	reads(t, "19", much[:size], plain)
}

// P5.1: Read, where more than one error could be told: the first one of ErrShort, ErrLong, ErrSum, ErrForm.
func TestReadFirstError(t *testing.T) {
	for _, head := range [][]byte{
		{0, 1, 2, 3, 4, 5, 0, 1, 2, 3, 4, 5, 6, 7, 8},
		{12, 1, 2, 3, 4, 5, 1, 1, 2, 3, 4, 5, 6, 7, 8},
		{3, 1, 2, 3, 4, 5, 2, 1, 2, 3, 4, 5, 6, 7, 8},
		{255, 255, 255, 255, 255, 255, 255, 255, 255, 255, 255, 255, 255, 255, 255},
	} {
		none := summed(head...)
		fails(t, "the frame of none", none, api.ErrForm)
		fails(t, "of none, and the sum", append(slices.Clone(head), 1, 2, 3, 4), api.ErrSum)
		for bit := range 8 * size {
			fails(t, "of none, and a bit", turned(none, bit), api.ErrSum)
		}
		fails(t, "of none, and short", none[:size-1], api.ErrShort)
		fails(t, "of none, short, and the sum", head, api.ErrShort)
		fails(t, "of none, and long", append(slices.Clone(none), 0), api.ErrLong)
		fails(t, "of none, long, and the sum", append(slices.Clone(head), 1, 2, 3, 4, 5), api.ErrLong)
	}
	spoilt := turned(asked(plain), 0)
	fails(t, "the sum", spoilt, api.ErrSum)
	fails(t, "the sum, and short", spoilt[:size-1], api.ErrShort)
	fails(t, "the sum, and long", append(slices.Clone(spoilt), 0), api.ErrLong)
}

// P5.1: Read, at each Kind and Own that a byte tells, with a sum that fits: a message, or ErrForm.
func TestReadForms(t *testing.T) {
	for kind := range 256 {
		for own := range 256 {
			b := summed(byte(kind), 16, 32, 48, 64, 80, byte(own), 0x91, 0x92, 0x93, 0x94, 0xa1, 0xa2, 0xa3, 0xa4)
			if kind < 1 || kind > 11 || own > 1 {
				fails(t, "no form", b, api.ErrForm)
				continue
			}
			m := owned(plain, own == 1)
			m.Kind = kind
			reads(t, "a form", b, m)
		}
	}
}

// P5.1: Read, with sums that nearly fit: ErrSum.
func TestReadSums(t *testing.T) {
	for _, m := range messages() {
		whole := asked(m)
		head, sum := whole[:body], whole[body:]
		with := func(four ...byte) []byte { return append(slices.Clone(head), four...) }
		for name, b := range map[string][]byte{
			"all bits of the sum turned": with(^sum[0], ^sum[1], ^sum[2], ^sum[3]),
			"one more":                   with(sum[0], sum[1], sum[2], sum[3]+1),
			"one less":                   with(sum[0], sum[1], sum[2], sum[3]-1),
			"no first byte":              with(^sum[0], sum[1], sum[2], sum[3]),
			"no last byte":               with(sum[0], sum[1], sum[2], ^sum[3]),
		} {
			fails(t, name, b, api.ErrSum)
		}
		if sum[0] != sum[3] || sum[1] != sum[2] {
			fails(t, "the lowest byte first", with(sum[3], sum[2], sum[1], sum[0]), api.ErrSum)
		}
	}
	fails(t, "noughts", make([]byte, size), api.ErrSum)
	fails(t, "all bits", bytes.Repeat([]byte{255}, size), api.ErrSum)
}

// P5.2: what was put is read as it was: each Kind, Own and not Own, each number at its edges.
func TestPutAndRead(t *testing.T) {
	l := messages()
	for _, p := range places {
		for n := range 256 {
			m := plain
			*p.of(&m) = n
			l = append(l, m)
		}
	}
	draw := lot(4)
	for range 20000 {
		l = append(l, drawn(draw))
	}
	for _, m := range l {
		b, err := frame.Put(m)
		if err != api.OK {
			t.Fatalf("Put(%+v): %d", m, err)
		}
		if got, err := frame.Read(b); err != api.OK || got != m {
			t.Fatalf("%+v was put, and read as %+v, %d", m, got, err)
		}
	}
}

// P5.2: and what is read is put as it was, so that no two frames are read as one message.
func TestReadAndPut(t *testing.T) {
	draw := lot(5)
	read := 0
	for range 20000 {
		head := make([]byte, body)
		for i := range head {
			head[i] = byte(draw(256))
		}
		head[0], head[6] = byte(draw(14)), byte(draw(3))
		b := summed(head...)
		m, err := frame.Read(b)
		if isOne := 1 <= b[0] && b[0] <= 11 && b[6] <= 1; isOne != (err == api.OK) || !isOne && err != api.ErrForm {
			t.Fatalf("Read(%v) = %+v, %d", b, m, err)
		}
		if err != api.OK {
			continue
		}
		read++
		if got, err := frame.Put(m); err != api.OK || !bytes.Equal(got, b) {
			t.Fatalf("%v was read, and put as %v, %d", b, got, err)
		}
	}
	// Without these in number the test would tell little.
	if read < 5000 {
		t.Errorf("%d were read: too few", read)
	}
}

// P5.2: a frame of which one bit was turned isn't read: ErrSum; turned back, it is.
func TestOneBit(t *testing.T) {
	for _, m := range messages() {
		b, err := frame.Put(m)
		if err != api.OK || len(b) != size {
			t.Fatalf("Put(%+v) = %v, %d", m, b, err)
		}
		for bit := range 8 * size {
			once := turned(b, bit)
			fails(t, "a bit turned", once, api.ErrSum)
			reads(t, "a bit turned twice", turned(once, bit), m)
		}
	}
}

// P1 leans on this: nor is a frame read of which two or three bits were turned.
func TestTwoAndThreeBits(t *testing.T) {
	b := asked(plain)
	turn := func(bit int) { b[bit/8] ^= 1 << (bit % 8) }
	unread := func(bits ...int) {
		if m, err := frame.Read(b); err != api.ErrSum || m != (api.Msg{}) {
			t.Fatalf("bits %v turned: %+v, %d", bits, m, err)
		}
	}
	for i := range 8 * size {
		turn(i)
		for j := range i {
			turn(j)
			unread(i, j)
			for k := range j {
				turn(k)
				unread(i, j, k)
				turn(k)
			}
			turn(j)
		}
		turn(i)
	}
	reads(t, "all turned back", b, plain)
}

// Rule 3: Sum and Read neither read nor change what lies in the spare room, and change nothing of what they are given.
func TestLeavesWhatItIsGiven(t *testing.T) {
	whole := append(asked(plain), asked(highest)...)
	same := slices.Clone(whole)
	for many := range len(whole) + 1 {
		given := whole[:many]
		if got, want := frame.Sum(given), crc32.ChecksumIEEE(slices.Clip(slices.Clone(given))); got != want {
			t.Errorf("Sum of the first %d = %#x; want %#x", many, got, want)
		}
		m, err := frame.Read(given)
		if again, errAgain := frame.Read(slices.Clip(slices.Clone(given))); m != again || err != errAgain {
			t.Errorf("Read of the first %d = %+v, %d; without spare room %+v, %d", many, m, err, again, errAgain)
		}
		if !bytes.Equal(whole, same) {
			t.Fatalf("what was given became %v", whole)
		}
	}
	for _, bad := range [][]byte{turned(asked(plain), 7), summed(make([]byte, body)...)} {
		whole := append(slices.Clone(bad), 7, 7, 7, 7)
		frame.Read(whole[:size])
		if !bytes.Equal(whole, append(slices.Clone(bad), 7, 7, 7, 7)) {
			t.Errorf("what was given became %v", whole)
		}
	}
}

// Rules 3 and 4: each answer of Put is new memory, and nothing is kept: what was answered once is answered again.
func TestAnswersAreNew(t *testing.T) {
	for _, m := range messages() {
		want := asked(m)
		one, _ := frame.Put(m)
		two, _ := frame.Put(m)
		room := one[:cap(one)]
		for i := range room {
			room[i] = 0x66
		}
		if !bytes.Equal(two, want) {
			t.Fatalf("after the first answer was written over, the second one is %v; want %v", two, want)
		}
		puts(t, "a third time", m, want)
		reads(t, "behind that", two, m)
	}
}
