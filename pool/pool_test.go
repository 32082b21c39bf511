package pool_test

import (
	"bytes"
	"math"
	"slices"
	"testing"

	"backstay/api"
	"backstay/frame"
	"backstay/pool"
	"backstay/word"
)

const (
	top  = math.MaxUint32
	most = 64
	size = 19
	bits = 8 * size
)

// far are numbers that are neither of a frame nor of a bit, some of which a narrower integer would take for one.
var far = []int{-2, -64, -65, -152, 256, 257, 65536, 65536 + 1, math.MaxInt32, math.MinInt32, math.MaxInt, math.MinInt, math.MinInt + 1}

// asked is the frame of a message that may be; what a frame is, layer 5's own tests hold.
func asked(m api.Msg) []byte {
	f, err := frame.Put(m)
	if err != api.OK {
		panic("a message of the tests that may not be")
	}
	return f
}

// summed is what the bytes b are with their sum behind them.
func summed(b ...byte) []byte {
	return append(slices.Clone(b), word.Bytes(frame.Sum(b))...)
}

// message is the n-th of many that may be, no two of which are alike.
func message(n int) api.Msg {
	return api.Msg{Kind: 1 + n%11, From: n % 5, To: n % 3, Line: n % 16, For: n % 7, Acks: n % 256, Own: n%2 == 1, Num: uint32(n), Val: top - uint32(n)}
}

// frames are so many, of the messages from the first one on.
func frames(many int) [][]byte {
	var l [][]byte
	for n := range many {
		l = append(l, asked(message(n)))
	}
	return l
}

// chosen are the frames of the messages of these numbers.
func chosen(numbers ...int) [][]byte {
	var l [][]byte
	for _, n := range numbers {
		l = append(l, asked(message(n)))
	}
	return l
}

// copied are frames as l are, that share no memory with them.
func copied(l [][]byte) [][]byte {
	c := slices.Clone(l)
	for i, f := range l {
		c[i] = slices.Clone(f)
	}
	return c
}

// alike answers whether two lists of frames are; a list is nil or empty alike.
func alike(a, b [][]byte) bool {
	return slices.EqualFunc(a, b, bytes.Equal)
}

// put is l with f in the place of its n-th one.
func put(l [][]byte, n int, f []byte) [][]byte {
	c := copied(l)
	c[n] = f
	return c
}

// without is l without its n-th frame.
func without(l [][]byte, n int) [][]byte {
	return slices.Concat(l[:n], l[n+1:])
}

// turned is b with one bit turned: of byte bit / 8 the one of the worth 2 to the bit % 8.
func turned(b []byte, bit int) []byte {
	b = slices.Clone(b)
	b[bit/8] ^= 1 << (bit % 8)
	return b
}

// deed is a call of a pool: which, and with what.
type deed struct {
	call   string
	m      api.Msg
	n, bit int
}

// done is what became of it.
type done struct {
	frames [][]byte
	m      api.Msg
	err    api.Errno
}

// does is what the program makes of d.
func (d deed) does(l [][]byte) done {
	p, m, err := api.Pool{Frames: l}, api.Msg{}, api.OK
	switch d.call {
	case "Send":
		p, err = pool.Send(p, d.m)
	case "Take":
		p, m, err = pool.Take(p, d.n)
	case "Drop":
		p, err = pool.Drop(p, d.n)
	case "Twice":
		p, err = pool.Twice(p, d.n)
	case "Spoil":
		p, err = pool.Spoil(p, d.n, d.bit)
	}
	return done{p.Frames, m, err}
}

// right answers whether the document lets these frames be under way.
func right(l [][]byte) bool {
	for _, f := range l {
		if len(f) != 19 {
			return false
		}
	}
	return len(l) <= 64
}

// asks is what the document asks of d, told without the program's package pool.
func (d deed) asks(l [][]byte) done {
	fails := func(err api.Errno) done { return done{l, api.Msg{}, err} }
	if !right(l) {
		return fails(api.ErrArg)
	}
	if d.call == "Send" {
		switch {
		case !frame.May(d.m):
			return fails(api.ErrArg)
		case len(l) == 64:
			return fails(api.ErrFull)
		}
		return done{frames: append(slices.Clone(l), asked(d.m))}
	}
	if d.n < 0 || d.n >= len(l) {
		return fails(api.ErrNone)
	}
	gone := without(l, d.n)
	switch d.call {
	case "Take":
		m, err := frame.Read(l[d.n])
		return done{gone, m, err}
	case "Drop":
		return done{frames: gone}
	case "Twice":
		if len(l) == 64 {
			return fails(api.ErrFull)
		}
		return done{frames: append(slices.Clone(l), l[d.n])}
	}
	if d.bit < 0 || d.bit > 151 {
		return fails(api.ErrArg)
	}
	return done{frames: put(l, d.n, turned(l[d.n], d.bit))}
}

// becomes holds the program to making want of d.
func becomes(t *testing.T, what string, l [][]byte, d deed, want done) {
	t.Helper()
	got := d.does(l)
	if got.err != want.err || got.m != want.m || !alike(got.frames, want.frames) {
		t.Errorf("%s: %+v of %d frames = %v, %+v, %d; want %v, %+v, %d", what, d, len(l), got.frames, got.m, got.err, want.frames, want.m, want.err)
	}
}

// stays holds the program to leaving all as it is, with no message and that error.
func stays(t *testing.T, what string, l [][]byte, d deed, err api.Errno) {
	t.Helper()
	becomes(t, what, l, d, done{l, api.Msg{}, err})
}

// wrongs are frames that may not be under way.
func wrongs() map[string][][]byte {
	long := append(asked(message(7)), 0)
	l := map[string][][]byte{
		"one too many":           frames(65),
		"two too many":           frames(66),
		"four times too many":    frames(256),
		"as many again":          frames(128),
		"many empty ones":        make([][]byte, 1000),
		"only one that is nil":   {nil},
		"only one that is empty": {{}},
		"only one of 18 bytes":   {asked(message(1))[:18]},
		"only one of 20 bytes":   {long},
		"only one of 38 bytes":   {slices.Repeat(asked(message(1)), 2)},
		"one of 19 + 256 bytes":  {make([]byte, size+256)},
		"18 and 20 bytes":        {long[:18], long},
		"20 and 18 bytes":        {long, long[:18]},
		"too many, one short":    put(frames(65), 64, long[:18]),
	}
	for _, many := range []int{2, 3, 63, 64} {
		for name, n := range map[string]int{"first": 0, "in the midst": many / 2, "last": many - 1} {
			l["nil, "+name] = put(frames(many), n, nil)
			l["empty, "+name] = put(frames(many), n, []byte{})
			l["a byte, "+name] = put(frames(many), n, long[:1])
			l["15 bytes, "+name] = put(frames(many), n, long[:15])
			l["18 bytes, "+name] = put(frames(many), n, long[:18])
			l["20 bytes, "+name] = put(frames(many), n, long)
		}
	}
	return l
}

// rights are frames that may be under way.
func rights() map[string][][]byte {
	odd := [][]byte{make([]byte, size), bytes.Repeat([]byte{255}, size), turned(asked(message(3)), 5)}
	return map[string][][]byte{
		"nil":                          nil,
		"none":                         {},
		"one":                          frames(1),
		"two":                          frames(2),
		"two alike":                    chosen(4, 4),
		"five":                         frames(5),
		"63":                           frames(63),
		"64":                           frames(64),
		"such as aren't read":          odd,
		"and such as are":              slices.Concat(frames(2), odd, frames(3)),
		"64 that aren't read":          slices.Repeat([][]byte{make([]byte, size)}, 64),
		"the frame of no Kind":         {summed(make([]byte, 15)...)},
		"the frame of a Kind too high": {summed(12, 1, 2, 3, 4, 5, 0, 0, 0, 0, 6, 0, 0, 0, 7)},
		"the frame of an Own too high": {summed(3, 1, 2, 3, 4, 5, 2, 0, 0, 0, 6, 0, 0, 0, 7)},
	}
}

// calls are the names of those that answer a pool.
var calls = []string{"Send", "Take", "Drop", "Twice", "Spoil"}

// deeds are some of each call, at edges, wrong ones among them.
func deeds(many int) []deed {
	l := []deed{
		{call: "Send", m: message(200)},
		{call: "Send", m: api.Msg{Kind: 1}},
		{call: "Send", m: api.Msg{Kind: 11, From: 255, To: 255, Line: 255, For: 255, Acks: 255, Own: true, Num: top, Val: top}},
		{call: "Send"},
		{call: "Send", m: api.Msg{Kind: 12}},
		{call: "Send", m: api.Msg{Kind: 1, Line: 256}},
		{call: "Send", m: api.Msg{Kind: 1, Acks: -1}},
	}
	for _, n := range append([]int{-1, 0, 1, many / 2, many - 2, many - 1, many, many + 1, 63, 64, 65}, far...) {
		for _, call := range calls[1:4] {
			l = append(l, deed{call: call, n: n})
		}
		for _, bit := range append([]int{-1, 0, 1, 7, 8, 63, 75, 119, 120, 150, 151, 152, 153, 159, 160}, far...) {
			l = append(l, deed{call: "Spoil", n: n, bit: bit})
		}
	}
	return l
}

// P6.1: Right, of pools that may be, and of such as may not.
func TestRight(t *testing.T) {
	for name, l := range rights() {
		if !pool.Right(api.Pool{Frames: l}) {
			t.Errorf("%s: not right", name)
		}
	}
	for name, l := range wrongs() {
		if pool.Right(api.Pool{Frames: l}) {
			t.Errorf("%s: right", name)
		}
	}
	for many := range 200 {
		if got := pool.Right(api.Pool{Frames: frames(many)}); got != (many <= 64) {
			t.Errorf("%d frames: Right is %t", many, got)
		}
	}
}

// P6.1: Right, one frame of each length from none on, alone, first, in the midst and last.
func TestRightLengths(t *testing.T) {
	for many := range 600 {
		f := make([]byte, many)
		for name, l := range map[string][][]byte{
			"alone":        {f},
			"first":        {f, asked(message(1)), asked(message(2))},
			"in the midst": {asked(message(1)), f, asked(message(2))},
			"last":         {asked(message(1)), asked(message(2)), f},
			"last of 64":   append(frames(63), f),
		} {
			if got := pool.Right(api.Pool{Frames: l}); got != (many == 19) {
				t.Errorf("%d bytes, %s: Right is %t", many, name, got)
			}
		}
	}
}

// P6.1: Room, of each number of frames under way, and 0 of a pool that isn't right.
func TestRoom(t *testing.T) {
	for many := range 65 {
		if got := pool.Room(api.Pool{Frames: frames(many)}); got != 64-many {
			t.Errorf("Room of %d = %d; want %d", many, got, 64-many)
		}
	}
	for name, l := range rights() {
		if got := pool.Room(api.Pool{Frames: l}); got != 64-len(l) {
			t.Errorf("%s: Room = %d; want %d", name, got, 64-len(l))
		}
	}
	for name, l := range wrongs() {
		if got := pool.Room(api.Pool{Frames: l}); got != 0 {
			t.Errorf("%s: Room = %d; want 0", name, got)
		}
	}
	if got := pool.Room(api.Pool{Frames: frames(80)[:4]}); got != 60 {
		t.Errorf("4 frames with spare room: Room = %d; want 60", got)
	}
}

// P6.1: Send, the document's example, and from an empty pool on till it is full: each frame is the last one, then ErrFull.
func TestSend(t *testing.T) {
	a, b := message(20), message(31)
	becomes(t, "a", nil, deed{call: "Send", m: a}, done{frames: chosen(20)})
	becomes(t, "b", chosen(20), deed{call: "Send", m: b}, done{frames: chosen(20, 31)})
	becomes(t, "a again", chosen(20, 31), deed{call: "Send", m: a}, done{frames: chosen(20, 31, 20)})
	p := api.Pool{}
	for n := range most {
		next, err := pool.Send(p, message(n))
		if err != api.OK || !alike(next.Frames, frames(n+1)) {
			t.Fatalf("the %d-th sent: %v, %d", n, next, err)
		}
		p = next
	}
	for range 3 {
		next, err := pool.Send(p, message(64))
		if err != api.ErrFull || !alike(next.Frames, frames(most)) {
			t.Fatalf("the 65th sent: %v, %d", next, err)
		}
		p = next
	}
}

// P6.1: Send, each Kind and each of the numbers at their edges: the frame's 19 bytes, by hand and as the document lays them; ErrArg of what may not be.
func TestSendMessages(t *testing.T) {
	l := frames(2)
	m := api.Msg{Kind: api.Data, From: 16, To: 32, Line: 48, For: 64, Acks: 80, Own: true, Num: 0x91929394, Val: 0xa1a2a3a4}
	byHand := []byte{3, 16, 32, 48, 64, 80, 1, 0x91, 0x92, 0x93, 0x94, 0xa1, 0xa2, 0xa3, 0xa4, 0x20, 0xdf, 0xea, 0x15}
	becomes(t, "by hand", l, deed{call: "Send", m: m}, done{frames: append(copied(l), byHand)})
	for kind := -1; kind < 14; kind++ {
		m.Kind = kind
		d := deed{call: "Send", m: m}
		if kind < 1 || kind > 11 {
			stays(t, "no Kind", l, d, api.ErrArg)
			continue
		}
		becomes(t, "a Kind", l, d, done{frames: append(copied(l), asked(m))})
	}
	for i := range 5 {
		for _, n := range append([]int{-1, 0, 1, 254, 255, 256}, far...) {
			m := message(7)
			*[]*int{&m.From, &m.To, &m.Line, &m.For, &m.Acks}[i] = n
			d := deed{call: "Send", m: m}
			if n < 0 || n > 255 {
				stays(t, "a number that may not be", l, d, api.ErrArg)
				continue
			}
			becomes(t, "a number", l, d, done{frames: append(copied(l), asked(m))})
		}
	}
}

// P6.1: Send, what may not be in a full pool: ErrArg, which is named ahead of ErrFull; in a pool with room for one more, that one.
func TestSendFull(t *testing.T) {
	stays(t, "full", frames(64), deed{call: "Send", m: message(64)}, api.ErrFull)
	for _, m := range []api.Msg{{}, {Kind: 12}, {Kind: 1, From: -1}, {Kind: 1, To: 256}} {
		stays(t, "full, and no message", frames(64), deed{call: "Send", m: m}, api.ErrArg)
		stays(t, "nearly full, and no message", frames(63), deed{call: "Send", m: m}, api.ErrArg)
		stays(t, "empty, and no message", nil, deed{call: "Send", m: m}, api.ErrArg)
	}
	becomes(t, "nearly full", frames(63), deed{call: "Send", m: message(63)}, done{frames: frames(64)})
}

// P6.1: ErrNone, and the pool as it is, of each call that names a frame that isn't there.
func TestNoFrame(t *testing.T) {
	for name, l := range rights() {
		for _, n := range append([]int{-1, len(l), len(l) + 1}, far...) {
			for _, call := range calls[1:] {
				for _, bit := range []int{0, 151} {
					stays(t, name, l, deed{call: call, n: n, bit: bit}, api.ErrNone)
				}
			}
		}
	}
}

// P6.1 and P6.2: each call with a pool that isn't right: ErrArg, ahead of all else, and the pool as it is.
func TestWrongPools(t *testing.T) {
	for name, l := range wrongs() {
		for _, d := range deeds(len(l)) {
			stays(t, name, l, d, api.ErrArg)
		}
	}
}

// P6.1 and P6.2: which error comes first where more than one could be told.
func TestFirstError(t *testing.T) {
	short, full := [][]byte{nil}, frames(64)
	for _, c := range []struct {
		name string
		l    [][]byte
		d    deed
		want api.Errno
	}{
		{"no pool, no message", frames(65), deed{call: "Send"}, api.ErrArg},
		{"no pool, no room", frames(65), deed{call: "Send", m: message(1)}, api.ErrArg},
		{"no message, no room", full, deed{call: "Send"}, api.ErrArg},
		{"no pool, no frame to take", short, deed{call: "Take", n: 1}, api.ErrArg},
		{"no pool, a frame that isn't read", short, deed{call: "Take", n: 0}, api.ErrArg},
		{"no pool, no frame to drop", short, deed{call: "Drop", n: -1}, api.ErrArg},
		{"no pool, no frame, no room", frames(65), deed{call: "Twice", n: 65}, api.ErrArg},
		{"no pool, no room", frames(65), deed{call: "Twice", n: 64}, api.ErrArg},
		{"no frame, no room", full, deed{call: "Twice", n: 64}, api.ErrNone},
		{"no frame below, no room", full, deed{call: "Twice", n: -1}, api.ErrNone},
		{"no pool, no frame, no bit", short, deed{call: "Spoil", n: 1, bit: 152}, api.ErrArg},
		{"no frame, no bit", frames(3), deed{call: "Spoil", n: 3, bit: 152}, api.ErrNone},
		{"no frame, no bit, below", frames(3), deed{call: "Spoil", n: -1, bit: -1}, api.ErrNone},
		{"nothing under way, no bit", nil, deed{call: "Spoil", n: 0, bit: -1}, api.ErrNone},
		{"no bit, no room, which isn't asked", full, deed{call: "Spoil", n: 63, bit: 152}, api.ErrArg},
	} {
		stays(t, c.name, c.l, c.d, c.want)
	}
}

// P6.2: Take, the document's example, and the first, a middle and the last one: its message, and the others stay in their order.
func TestTake(t *testing.T) {
	for _, c := range []struct {
		name  string
		l     [][]byte
		n     int
		which int
		left  [][]byte
	}{
		{"the document's example", chosen(20, 31), 1, 31, chosen(20)},
		{"the first of two", chosen(20, 31), 0, 20, chosen(31)},
		{"the only one", chosen(9), 0, 9, nil},
		{"the first", frames(5), 0, 0, chosen(1, 2, 3, 4)},
		{"the second", frames(5), 1, 1, chosen(0, 2, 3, 4)},
		{"in the midst", frames(5), 2, 2, chosen(0, 1, 3, 4)},
		{"the last but one", frames(5), 3, 3, chosen(0, 1, 2, 4)},
		{"the last", frames(5), 4, 4, chosen(0, 1, 2, 3)},
		{"the last of all", frames(64), 63, 63, frames(63)},
		{"the first of all", frames(64), 0, 0, frames(64)[1:]},
		{"one of two alike", chosen(4, 5, 4), 0, 4, chosen(5, 4)},
		{"the other one", chosen(4, 5, 4), 2, 4, chosen(4, 5)},
	} {
		becomes(t, c.name, c.l, deed{call: "Take", n: c.n}, done{frames: c.left, m: message(c.which)})
		becomes(t, c.name, c.l, deed{call: "Drop", n: c.n}, done{frames: c.left})
	}
}

// P6.2: Take of a frame that isn't read: it goes, no message, and its error; Drop of it tells none.
func TestTakeUnread(t *testing.T) {
	for name, c := range map[string]struct {
		f    []byte
		want api.Errno
	}{
		"noughts":          {make([]byte, size), api.ErrSum},
		"all bits":         {bytes.Repeat([]byte{255}, size), api.ErrSum},
		"a bit turned":     {turned(asked(message(8)), 0), api.ErrSum},
		"the sum's bit":    {turned(asked(message(8)), 151), api.ErrSum},
		"a Kind of 0":      {summed(make([]byte, 15)...), api.ErrForm},
		"a Kind of 12":     {summed(12, 1, 2, 3, 4, 5, 0, 0, 0, 0, 6, 0, 0, 0, 7), api.ErrForm},
		"an Own of 2":      {summed(3, 1, 2, 3, 4, 5, 2, 0, 0, 0, 6, 0, 0, 0, 7), api.ErrForm},
		"no Kind, turned":  {turned(summed(make([]byte, 15)...), 4), api.ErrSum},
		"a sum behind 14":  {append([]byte{0}, summed(make([]byte, 14)...)...), api.ErrSum},
		"a sum turned all": {append(asked(message(8))[:15], 0, 0, 0, 0), api.ErrSum},
	} {
		for n := range 4 {
			l := slices.Insert(chosen(10, 11, 12), n, c.f)
			becomes(t, name, l, deed{call: "Take", n: n}, done{chosen(10, 11, 12), api.Msg{}, c.want})
			becomes(t, name, l, deed{call: "Drop", n: n}, done{frames: chosen(10, 11, 12)})
		}
		becomes(t, name+", alone", [][]byte{c.f}, deed{call: "Take"}, done{nil, api.Msg{}, c.want})
		becomes(t, name+", beside", [][]byte{c.f, asked(message(6))}, deed{call: "Take", n: 1}, done{frames: [][]byte{c.f}, m: message(6)})
		full := put(frames(64), 63, c.f)
		becomes(t, name+", the last of all", full, deed{call: "Take", n: 63}, done{frames(63), api.Msg{}, c.want})
	}
}

// P6.2: Twice, the first, a middle and the last one: once more as the last one, till there is no room.
func TestTwice(t *testing.T) {
	unread := turned(asked(message(9)), 77)
	for _, c := range []struct {
		name string
		l    [][]byte
		n    int
		want [][]byte
	}{
		{"the only one", chosen(9), 0, chosen(9, 9)},
		{"the first", frames(4), 0, chosen(0, 1, 2, 3, 0)},
		{"in the midst", frames(4), 2, chosen(0, 1, 2, 3, 2)},
		{"the last", frames(4), 3, chosen(0, 1, 2, 3, 3)},
		{"one that isn't read", put(frames(4), 1, unread), 1, append(put(frames(4), 1, unread), unread)},
		{"up to 64", frames(63), 62, append(frames(63), asked(message(62)))},
	} {
		becomes(t, c.name, c.l, deed{call: "Twice", n: c.n}, done{frames: c.want})
	}
	for n := range 64 {
		stays(t, "no room", frames(64), deed{call: "Twice", n: n}, api.ErrFull)
	}
	p := api.Pool{Frames: chosen(3)}
	for many := 1; many < 64; many++ {
		next, err := pool.Twice(p, many/2)
		if err != api.OK || !alike(next.Frames, slices.Repeat(chosen(3), many+1)) {
			t.Fatalf("twice, with %d: %v, %d", many, next, err)
		}
		p = next
	}
}

// P6.2: Spoil, at bits by hand, and at each bit of the first, a middle and the last frame: that bit alone is turned.
func TestSpoil(t *testing.T) {
	for _, c := range []struct {
		bit, at int
		worth   byte
	}{{0, 0, 1}, {1, 0, 2}, {7, 0, 128}, {8, 1, 1}, {15, 1, 128}, {60, 7, 16}, {119, 14, 128}, {120, 15, 1}, {143, 17, 128}, {144, 18, 1}, {151, 18, 128}} {
		for _, b := range []byte{0, 255} {
			f := bytes.Repeat([]byte{b}, size)
			want := slices.Clone(f)
			want[c.at] = b ^ c.worth
			becomes(t, "by hand", [][]byte{f}, deed{call: "Spoil", bit: c.bit}, done{frames: [][]byte{want}})
		}
	}
	for _, many := range []int{1, 2, 5, 64} {
		l := frames(many)
		for _, n := range []int{0, many / 2, many - 1} {
			for bit := range bits {
				becomes(t, "a bit", l, deed{call: "Spoil", n: n, bit: bit}, done{frames: put(l, n, turned(l[n], bit))})
			}
			for _, bit := range append([]int{-1, -7, -8, 152, 153, 159, 160}, far...) {
				stays(t, "no bit", l, deed{call: "Spoil", n: n, bit: bit}, api.ErrArg)
			}
		}
	}
}

// P6.1 and P6.2: each call, at all edges at once, is what the document asks.
func TestAllCalls(t *testing.T) {
	for name, l := range rights() {
		for _, d := range deeds(len(l)) {
			becomes(t, name, l, d, d.asks(l))
		}
	}
}

// P6.3: what is taken was sent, in whatever order it is taken.
func TestSentAndTaken(t *testing.T) {
	for _, step := range []int{0, 1, 7, 31, 63} {
		p := api.Pool{}
		var sent []api.Msg
		for n := range most {
			p, _ = pool.Send(p, message(n))
			sent = append(sent, message(n))
		}
		for len(sent) > 0 {
			n := step % len(sent)
			next, m, err := pool.Take(p, n)
			if err != api.OK || m != sent[n] {
				t.Fatalf("taken by %d: %+v, %d; sent was %+v", step, m, err, sent[n])
			}
			p, sent = next, slices.Delete(sent, n, n+1)
		}
		if len(p.Frames) != 0 || pool.Room(p) != most {
			t.Fatalf("all taken, and under way is %v", p)
		}
	}
}

// P6.3: a frame that was spoilt once isn't read; spoilt twice at one bit, it is; the others are, whatever is spoilt beside them.
func TestSpoiltAndTaken(t *testing.T) {
	for _, n := range []int{0, 1, 2} {
		for bit := range bits {
			once := deed{call: "Spoil", n: n, bit: bit}.does(frames(3)).frames
			twice := deed{call: "Spoil", n: n, bit: bit}.does(once).frames
			left := without(frames(3), n)
			becomes(t, "spoilt once", once, deed{call: "Take", n: n}, done{left, api.Msg{}, api.ErrSum})
			becomes(t, "spoilt twice", twice, deed{call: "Take", n: n}, done{left, message(n), api.OK})
			other := (n + 1) % 3
			becomes(t, "beside it", once, deed{call: "Take", n: other}, done{without(once, other), message(other), api.OK})
		}
	}
}

// P6.3: a frame that stands twice is read twice; one of the two spoilt, the other one is read.
func TestTwiceAndTaken(t *testing.T) {
	for _, n := range []int{0, 1, 2} {
		l := deed{call: "Twice", n: n}.does(frames(3)).frames
		for _, which := range []int{n, 3} {
			other := n + 3 - which
			becomes(t, "one of the two", l, deed{call: "Take", n: which}, done{frames: without(l, which), m: message(n)})
			spoilt := deed{call: "Spoil", n: which, bit: 40}.does(l).frames
			if _, m, err := pool.Take(api.Pool{Frames: spoilt}, which); err != api.ErrSum || m != (api.Msg{}) {
				t.Errorf("the spoilt one of the two: %+v, %d", m, err)
			}
			if _, m, err := pool.Take(api.Pool{Frames: spoilt}, other); err != api.OK || m != message(n) {
				t.Errorf("the other one of the two: %+v, %d", m, err)
			}
		}
	}
}

// lot gives numbers below n that look drawn, the same ones each time.
func lot(state uint64) func(n int) int {
	return func(n int) int {
		state = state*6364136223846793005 + 1442695040888963407
		return int(state>>33) % n
	}
}

// drawn is a deed that is now and then a wrong one.
func drawn(draw func(n int) int, many int) deed {
	d := deed{call: calls[draw(len(calls))], m: message(draw(400)), n: draw(many+1) - draw(60)/59, bit: draw(bits+2) - 1}
	if draw(20) == 0 {
		d.m.Kind = draw(14) - 1
		d.m.For = draw(2) * 256
	}
	// More is sent than goes, so that it gets full as often as empty.
	if d.call == "Drop" && draw(3) == 0 {
		d.call = "Send"
	}
	return d
}

// P6.3: whatever is called one behind another, each pool is what the document asks, stays right, and what is read was sent.
func TestDrawnCalls(t *testing.T) {
	for seed := range 40 {
		draw := lot(uint64(seed))
		var l [][]byte
		sent := map[api.Msg]bool{}
		for range 500 {
			d := drawn(draw, len(l))
			got, want := d.does(l), d.asks(l)
			if got.err != want.err || got.m != want.m || !alike(got.frames, want.frames) {
				t.Fatalf("seed %d: %+v of %v = %+v; want %+v", seed, d, l, got, want)
			}
			if d.call == "Send" && got.err == api.OK {
				sent[d.m] = true
			}
			if d.call == "Take" && got.err == api.OK && !sent[got.m] {
				t.Fatalf("seed %d: %+v was taken and never sent", seed, got.m)
			}
			l = got.frames
			if p := (api.Pool{Frames: l}); !pool.Right(p) || pool.Room(p) != 64-len(l) {
				t.Fatalf("seed %d: behind %+v the pool isn't right, or has the room %d", seed, d, pool.Room(p))
			}
		}
	}
}

// roomy is l, laid into one memory with spare room behind each frame and behind the list; whole is all of that.
func roomy(l [][]byte) (given, whole [][]byte) {
	for _, f := range l {
		if f != nil {
			f = append(slices.Clone(f), 7, 7, 7, 7, 7)[:len(f)]
		}
		whole = append(whole, f)
	}
	for range 3 {
		whole = append(whole, []byte{8, 8})
	}
	return whole[:len(l)], whole
}

// opened are the frames l, each with its spare room.
func opened(l [][]byte) [][]byte {
	c := slices.Clone(l)
	for i, f := range l {
		c[i] = f[:cap(f)]
	}
	return copied(c)
}

// Rule 3: no call changes what it is given, nor what lies in the spare room, nor lets that be seen.
func TestLeavesWhatItIsGiven(t *testing.T) {
	all := rights()
	for name, l := range wrongs() {
		all[name] = l
	}
	for name, l := range all {
		given, whole := roomy(l)
		same := opened(whole)
		for _, d := range deeds(len(l)) {
			becomes(t, name, given, d, d.asks(l))
			if pool.Right(api.Pool{Frames: given}) != right(l) {
				t.Fatalf("%s: Right hangs on the spare room", name)
			}
			if right(l) && pool.Room(api.Pool{Frames: given}) != 64-len(l) {
				t.Fatalf("%s: Room hangs on the spare room", name)
			}
			if !alike(opened(whole), same) {
				t.Fatalf("%s: %+v changed what it was given to %v", name, d, whole)
			}
		}
	}
}

// writeOver fills all of l, its frames and all spare room.
func writeOver(l [][]byte) {
	l = l[:cap(l)]
	for i, f := range l {
		f = f[:cap(f)]
		for k := range f {
			f[k] = 0x66
		}
		l[i] = nil
	}
}

// Rules 3 and 4: each answer is new memory: what is written over it is seen neither in what was given nor in another answer, beside an error neither.
func TestAnswersAreNew(t *testing.T) {
	all := rights()
	all["one that is wrong"] = put(frames(4), 2, []byte{1, 2})
	all["too many"] = frames(70)
	for name, l := range all {
		for _, d := range deeds(len(l)) {
			given := copied(l)
			want := d.asks(l)
			one, two := d.does(given), d.does(given)
			writeOver(one.frames)
			if !alike(given, l) {
				t.Fatalf("%s: the answer of %+v was written over, and what was given is %v", name, d, given)
			}
			writeOver(given)
			if !alike(two.frames, want.frames) {
				t.Fatalf("%s: the second answer of %+v became %v; want %v", name, d, two.frames, want.frames)
			}
		}
	}
}

// Rule 3: no two frames of an answer share memory, not even where those that were given did.
func TestFramesAreApart(t *testing.T) {
	f := asked(message(5))
	shared := [][]byte{f, f, f}
	unread := turned(f, 9)
	becomes(t, "one of three", shared, deed{call: "Spoil", n: 1, bit: 9}, done{frames: [][]byte{f, unread, f}})
	if !bytes.Equal(f, asked(message(5))) {
		t.Errorf("what was given became %v", f)
	}
	for _, l := range [][][]byte{shared, frames(4)} {
		for _, d := range deeds(len(l)) {
			got := d.does(l).frames
			for i := range got {
				want := copied(got)
				want[i][0]++
				got[i][0]++
				if !alike(got, want) {
					t.Fatalf("%+v: frame %d written over, and the frames are %v; want %v", d, i, got, want)
				}
			}
			// Spare room is memory, too: what is put behind a frame is seen in no other one.
			want := copied(got)
			for i := range got {
				_ = append(got[i], 0x66, 0x66)
			}
			if !alike(got, want) {
				t.Fatalf("%+v: something put behind the frames turned them to %v", d, got)
			}
		}
	}
}
