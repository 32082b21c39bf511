package parity_test

import (
	"math"
	"slices"
	"testing"

	"backstay/api"
	"backstay/parity"
)

const top = math.MaxUint32

// far are numbers that are neither of a bank nor of a word, some of which a narrower integer would take for one.
var far = []int{-2, -8, -64, -65, 256, 257, 65536, 65536 + 1, math.MaxInt32, math.MinInt32, math.MaxInt, math.MinInt, math.MinInt + 1}

// word is the word of a bank at a place, of banks no two words of which are alike.
func word(bank, at int) uint32 {
	return uint32(bank+1)*0x10203041 ^ uint32(at+1)*0x0f0e0d0b
}

// rowsOf are so many rows of so many words, no two of which are alike.
func rowsOf(many, words int) [][]uint32 {
	var rows [][]uint32
	for bank := range many {
		var row []uint32
		for at := range words {
			row = append(row, word(bank, at))
		}
		rows = append(rows, row)
	}
	return rows
}

// parOf is what the document asks of Par: all rows together, word by word.
func parOf(rows [][]uint32) []uint32 {
	var par []uint32
	for at := range rows[0] {
		var w uint32
		for _, row := range rows {
			w ^= row[at]
		}
		par = append(par, w)
	}
	return par
}

// whole are banks with these rows, of which none is lost.
func whole(rows [][]uint32) api.Banks {
	return api.Banks{Rows: rows, Par: parOf(rows)}
}

// full are so many banks of so many words, none of them lost.
func full(many, words int) api.Banks {
	return whole(rowsOf(many, words))
}

// without are the banks b, that bank lost.
func without(b api.Banks, bank int) api.Banks {
	b = copied(b)
	b.Rows[bank] = make([]uint32, len(b.Rows[bank]))
	b.Lost = bank + 1
	return b
}

// copied are banks as b are, that share no memory with them.
func copied(b api.Banks) api.Banks {
	rows := slices.Clone(b.Rows)
	for i, row := range rows {
		rows[i] = slices.Clone(row)
	}
	return api.Banks{Rows: rows, Par: slices.Clone(b.Par), Lost: b.Lost}
}

// alike answers whether a and b are; a list is nil or empty alike.
func alike(a, b api.Banks) bool {
	return a.Lost == b.Lost && slices.Equal(a.Par, b.Par) && slices.EqualFunc(a.Rows, b.Rows, slices.Equal)
}

// turned are the banks b with something of them turned.
func turned(b api.Banks, by func(b *api.Banks)) api.Banks {
	b = copied(b)
	by(&b)
	return b
}

// deed is a call: which, and with what.
type deed struct {
	call     string
	bank, at int
	w        uint32
}

// done is what became of it.
type done struct {
	b   api.Banks
	w   uint32
	err api.Errno
}

// does is what the program makes of d; Read leaves the banks as they are.
func (d deed) does(b api.Banks) done {
	got := done{b: b}
	switch d.call {
	case "New":
		got.b, got.err = parity.New(d.bank, d.at)
	case "Read":
		got.w, got.err = parity.Read(b, d.bank, d.at)
	case "Write":
		got.b, got.err = parity.Write(b, d.bank, d.at, d.w)
	case "Lose":
		got.b, got.err = parity.Lose(b, d.bank)
	case "Rebuild":
		got.b, got.err = parity.Rebuild(b)
	}
	return got
}

// right answers whether the document takes b for right.
func right(b api.Banks) bool {
	many, words := len(b.Rows), len(b.Par)
	if many == 0 || many > 8 || words == 0 || words > 64 || b.Lost < 0 || b.Lost > many {
		return false
	}
	for _, row := range b.Rows {
		if len(row) != words {
			return false
		}
	}
	if b.Lost == 0 {
		return slices.Equal(b.Par, parOf(b.Rows))
	}
	return slices.Equal(b.Rows[b.Lost-1], make([]uint32, words))
}

// asks is what the document asks of d, told without the program.
func (d deed) asks(b api.Banks) done {
	fails := func(err api.Errno) done { return done{b: b, err: err} }
	noBank := d.bank < 0 || d.bank >= len(b.Rows)
	noWord := d.at < 0 || d.at >= len(b.Par)
	switch {
	case !right(b):
		return fails(api.ErrArg)
	case noBank && d.call != "Rebuild":
		return fails(api.ErrArg)
	case noWord && (d.call == "Read" || d.call == "Write"):
		return fails(api.ErrArg)
	}
	switch d.call {
	case "Read":
		if b.Lost == d.bank+1 {
			return fails(api.ErrState)
		}
		return done{b: b, w: b.Rows[d.bank][d.at]}
	case "Rebuild":
		if b.Lost == 0 {
			return fails(api.ErrState)
		}
		rows := append(copied(b).Rows, b.Par)
		rows[b.Lost-1] = parOf(rows)
		return done{b: api.Banks{Rows: rows[:len(b.Rows)], Par: b.Par}}
	}
	if b.Lost != 0 {
		return fails(api.ErrState)
	}
	if d.call == "Lose" {
		return done{b: without(b, d.bank)}
	}
	rows := copied(b).Rows
	rows[d.bank][d.at] = d.w
	return done{b: whole(rows)}
}

// becomes holds the program to making want of d.
func becomes(t *testing.T, what string, b api.Banks, d deed, want done) {
	t.Helper()
	got := d.does(b)
	if got.err != want.err || got.w != want.w || !alike(got.b, want.b) {
		t.Errorf("%s: %+v of %v = %v, %d, %d; want %v, %d, %d", what, d, b, got.b, got.w, got.err, want.b, want.w, want.err)
	}
}

// stays holds the program to leaving all as it is, with no word and that error.
func stays(t *testing.T, what string, b api.Banks, d deed, err api.Errno) {
	t.Helper()
	becomes(t, what, b, d, done{b: b, err: err})
}

// rights are banks that may be.
func rights() map[string]api.Banks {
	five := whole([][]uint32{{5}, {6}})
	l := map[string]api.Banks{
		"the document's example": five,
		"noughts":                whole([][]uint32{{0, 0}, {0, 0}, {0, 0}}),
		"the greatest words":     whole([][]uint32{{top, top}, {top, 0}, {top, 1}}),
		"rows that are alike":    whole([][]uint32{{7, 8, 9}, {7, 8, 9}}),
		"a row of noughts":       whole([][]uint32{{7, 8, 9}, {0, 0, 0}, {1, 2, 3}}),
		"noughts, one lost":      without(whole([][]uint32{{0, 0}, {0, 0}, {0, 0}}), 1),
		"a Par of noughts, and the lost row was as the other": without(whole([][]uint32{{4, top}, {4, top}}), 0),
		"the only bank lost, its words 0":                     without(whole([][]uint32{{0, 0}}), 0),
	}
	for name, many := range map[string]int{"one bank": 1, "two banks": 2, "five banks": 5, "eight banks": 8} {
		for size, words := range map[string]int{"one word": 1, "two words": 2, "63 words": 63, "64 words": 64} {
			b := full(many, words)
			l[name+" of "+size] = b
			l[name+" of "+size+", the first lost"] = without(b, 0)
			l[name+" of "+size+", one in the midst lost"] = without(b, many/2)
			l[name+" of "+size+", the last lost"] = without(b, many-1)
			// Where a bank is lost, nothing tells what Par was.
			l[name+" of "+size+", one lost, and a bit of Par turned"] = turned(without(b, many/2), func(b *api.Banks) { b.Par[words-1] ^= 1 << 31 })
		}
	}
	return l
}

// wrongs are banks that may not be.
func wrongs() map[string]api.Banks {
	l := map[string]api.Banks{
		"nothing":               {},
		"no rows":               {Par: []uint32{0}},
		"no rows, empty":        {Rows: [][]uint32{}, Par: []uint32{0, 0}},
		"no rows, one lost":     {Par: []uint32{0}, Lost: 1},
		"a row, no Par":         {Rows: [][]uint32{{0}}},
		"a row that is nil":     {Rows: [][]uint32{nil}, Par: nil},
		"rows that are empty":   {Rows: [][]uint32{{}, {}}, Par: []uint32{}},
		"empty rows, one lost":  {Rows: [][]uint32{{}, {}}, Par: []uint32{}, Lost: 1},
		"nine rows":             full(9, 3),
		"nine rows of a word":   full(9, 1),
		"ten rows":              full(10, 64),
		"256 + 1 rows":          full(257, 2),
		"nine rows, one lost":   without(full(9, 3), 0),
		"nine rows, the last":   without(full(9, 3), 8),
		"65 words":              full(3, 65),
		"66 words":              full(8, 66),
		"256 + 1 words":         full(2, 257),
		"65 words, one lost":    without(full(3, 65), 1),
		"nine rows of 65 words": full(9, 65),
		"the example, no Par":   {Rows: [][]uint32{{5}, {6}}},
		"the example's Par 11":  {Rows: [][]uint32{{5}, {6}}, Par: []uint32{11}},
		"the example's Par 0":   {Rows: [][]uint32{{5}, {6}}, Par: []uint32{0}},
	}
	for name, many := range map[string]int{"one bank": 1, "two": 2, "five": 5, "eight": 8} {
		for _, b := range []api.Banks{full(many, 4), without(full(many, 4), 0), without(full(many, 4), many-1)} {
			state := []string{"none lost", "the first lost", "the last lost"}[min(b.Lost, 2)]
			for place, n := range map[string]int{"first": 0, "in the midst": many / 2, "last": many - 1} {
				about := name + ", " + state + ", the row " + place
				l[about+" a word too short"] = turned(b, func(b *api.Banks) { b.Rows[n] = b.Rows[n][:3] })
				l[about+" a word too long"] = turned(b, func(b *api.Banks) { b.Rows[n] = append(b.Rows[n], 0) })
				l[about+" nil"] = turned(b, func(b *api.Banks) { b.Rows[n] = nil })
				l[about+" of 65 words"] = turned(b, func(b *api.Banks) { b.Rows[n] = make([]uint32, 65) })
			}
			l[name+", "+state+", Par too short"] = turned(b, func(b *api.Banks) { b.Par = b.Par[:3] })
			l[name+", "+state+", Par too long"] = turned(b, func(b *api.Banks) { b.Par = append(b.Par, 0) })
			l[name+", "+state+", no Par"] = turned(b, func(b *api.Banks) { b.Par = nil })
			l[name+", "+state+", Lost -1"] = turned(b, func(b *api.Banks) { b.Lost = -1 })
			l[name+", "+state+", Lost behind the last"] = turned(b, func(b *api.Banks) { b.Lost = many + 1 })
		}
		l[name+", Par's first word wrong"] = turned(full(many, 4), func(b *api.Banks) { b.Par[0]++ })
		l[name+", Par's last word wrong"] = turned(full(many, 4), func(b *api.Banks) { b.Par[3] ^= 1 << 31 })
		l[name+", a lost row's first word not 0"] = turned(without(full(many, 4), many/2), func(b *api.Banks) { b.Rows[many/2][0] = 1 })
		l[name+", a lost row's last word not 0"] = turned(without(full(many, 4), many/2), func(b *api.Banks) { b.Rows[many/2][3] = 1 << 31 })
		l[name+", lost by Lost alone"] = turned(full(many, 4), func(b *api.Banks) { b.Lost = many })
	}
	return l
}

// deeds are some of each call that takes banks, at edges, wrong ones among them.
func deeds(b api.Banks) []deed {
	many, words := len(b.Rows), len(b.Par)
	l := []deed{{call: "Rebuild"}}
	for _, bank := range []int{-1, 0, 1, many / 2, many - 1, many, many + 1} {
		l = append(l, deed{call: "Lose", bank: bank})
		for _, at := range []int{-1, 0, 1, words / 2, words - 1, words, words + 1} {
			l = append(l, deed{call: "Read", bank: bank, at: at})
			for _, w := range []uint32{0, 1, top, word(bank, at)} {
				l = append(l, deed{call: "Write", bank: bank, at: at, w: w})
			}
		}
	}
	return l
}

// P7.1: Right, of banks that may be, and of such as may not.
func TestRight(t *testing.T) {
	for name, b := range rights() {
		if !parity.Right(b) {
			t.Errorf("%s: not right", name)
		}
	}
	for name, b := range wrongs() {
		if parity.Right(b) {
			t.Errorf("%s: right", name)
		}
	}
}

// P7.1: Right, of each number of banks and of words, none lost or the first.
func TestRightSizes(t *testing.T) {
	for many := range 20 {
		for words := range 140 {
			b := api.Banks{Rows: make([][]uint32, many), Par: make([]uint32, words)}
			for n := range b.Rows {
				b.Rows[n] = make([]uint32, words)
			}
			for b.Lost = range 2 {
				want := 1 <= many && many <= 8 && 1 <= words && words <= 64
				if got := parity.Right(b); got != want {
					t.Errorf("%d banks of %d words, Lost %d: Right is %t", many, words, b.Lost, got)
				}
			}
		}
	}
}

// P7.1: Right, each Lost of a row whose words are 0, and of one whose words are not.
func TestRightLost(t *testing.T) {
	for many := 1; many <= 8; many++ {
		b := full(many, 2)
		zero := api.Banks{Rows: slices.Repeat([][]uint32{{0, 0}}, many), Par: []uint32{0, 0}}
		for _, lost := range append([]int{-1, 0, 1, 2, many - 1, many, many + 1, 8, 9}, far...) {
			mayBe := 0 <= lost && lost <= many
			b.Lost, zero.Lost = lost, lost
			if got := parity.Right(zero); got != mayBe {
				t.Errorf("%d banks of noughts, Lost %d: Right is %t", many, lost, got)
			}
			if got := parity.Right(b); got != (lost == 0) {
				t.Errorf("%d banks, Lost %d: Right is %t", many, lost, got)
			}
			if mayBe && lost > 0 {
				if got := parity.Right(turned(b, func(b *api.Banks) { clear(b.Rows[lost-1]) })); !got {
					t.Errorf("%d banks, Lost %d and its words 0: Right is %t", many, lost, got)
				}
			}
		}
	}
}

// P7.1: Right, any one bit of any word turned: none lost, it isn't right; one lost, it is not if the bit is of that one.
func TestRightBits(t *testing.T) {
	for lost := range 4 {
		b := full(3, 4)
		if lost > 0 {
			b = without(b, lost-1)
		}
		for bit := range 32 {
			for at := range 4 {
				for bank := range 4 {
					wrong := turned(b, func(b *api.Banks) { append(b.Rows, b.Par)[bank][at] ^= 1 << bit })
					if got, want := parity.Right(wrong), lost != 0 && lost != bank+1; got != want {
						t.Errorf("Lost %d, the bit %d at %d of row %d turned (3: Par): Right is %t", lost, bit, at, bank, got)
					}
				}
			}
		}
	}
}

// P7.1: New, of each number of banks and of words: all words 0, nothing lost; none, and ErrArg.
func TestNew(t *testing.T) {
	numbers := append([]int{-1, 0, 1, 2, 7, 8, 9, 10, 63, 64, 65, 66}, far...)
	for _, banks := range numbers {
		for _, words := range numbers {
			b, err := parity.New(banks, words)
			if banks < 1 || banks > 8 || words < 1 || words > 64 {
				if err != api.ErrArg || b.Lost != 0 || len(b.Rows) != 0 || len(b.Par) != 0 {
					t.Errorf("New(%d, %d) = %v, %d; want none and ErrArg", banks, words, b, err)
				}
				continue
			}
			zero := make([]uint32, words)
			if want := (api.Banks{Rows: slices.Repeat([][]uint32{zero}, banks), Par: zero}); err != api.OK || !alike(b, want) {
				t.Errorf("New(%d, %d) = %v, %d; want %v", banks, words, b, err, want)
			}
			if !parity.Right(b) {
				t.Errorf("New(%d, %d) isn't right", banks, words)
			}
		}
	}
}

// P7.1 and P7.2: the document's example, step by step.
func TestExample(t *testing.T) {
	b, err := parity.New(2, 1)
	if err != api.OK {
		t.Fatal(err)
	}
	becomes(t, "5", b, deed{call: "Write", bank: 0, at: 0, w: 5}, done{b: api.Banks{Rows: [][]uint32{{5}, {0}}, Par: []uint32{5}}})
	b, _ = parity.Write(b, 0, 0, 5)
	both := api.Banks{Rows: [][]uint32{{5}, {6}}, Par: []uint32{3}}
	becomes(t, "6", b, deed{call: "Write", bank: 1, at: 0, w: 6}, done{b: both})
	gone := api.Banks{Rows: [][]uint32{{0}, {6}}, Par: []uint32{3}, Lost: 1}
	becomes(t, "lost", both, deed{call: "Lose"}, done{b: gone})
	becomes(t, "rebuilt", gone, deed{call: "Rebuild"}, done{b: both})
	becomes(t, "read", both, deed{call: "Read"}, done{b: both, w: 5})
	becomes(t, "read while lost", gone, deed{call: "Read", bank: 1}, done{b: gone, w: 6})
	stays(t, "read what is lost", gone, deed{call: "Read"}, api.ErrState)
}

// P7.1: Read, each word of each bank, none lost; one lost, the words of that one aren't, those of the others are.
func TestRead(t *testing.T) {
	for name, b := range rights() {
		for bank, row := range b.Rows {
			for at, w := range row {
				d := deed{call: "Read", bank: bank, at: at}
				if b.Lost == bank+1 {
					stays(t, name, b, d, api.ErrState)
					continue
				}
				becomes(t, name, b, d, done{b: b, w: w})
			}
		}
	}
}

// P7.1: Write, by hand: the word, and Par as it is then.
func TestWrite(t *testing.T) {
	three := api.Banks{Rows: [][]uint32{{1, 2}, {4, 8}, {16, 32}}, Par: []uint32{21, 42}}
	for _, c := range []struct {
		bank, at int
		w        uint32
		rows     [][]uint32
		par      []uint32
	}{
		{0, 0, 64, [][]uint32{{64, 2}, {4, 8}, {16, 32}}, []uint32{84, 42}},
		{0, 1, 0, [][]uint32{{1, 0}, {4, 8}, {16, 32}}, []uint32{21, 40}},
		{1, 0, 5, [][]uint32{{1, 2}, {5, 8}, {16, 32}}, []uint32{20, 42}},
		{1, 1, 8, [][]uint32{{1, 2}, {4, 8}, {16, 32}}, []uint32{21, 42}},
		{2, 0, top, [][]uint32{{1, 2}, {4, 8}, {top, 32}}, []uint32{0xfffffffa, 42}},
		{2, 1, 1 << 31, [][]uint32{{1, 2}, {4, 8}, {16, 1 << 31}}, []uint32{21, 0x8000000a}},
	} {
		d := deed{call: "Write", bank: c.bank, at: c.at, w: c.w}
		becomes(t, "by hand", three, d, done{b: api.Banks{Rows: c.rows, Par: c.par}})
	}
}

// P7.1: Write, into the first, a middle and the last bank of each size, and read back: that word alone, and Par as it is then.
func TestWriteAndRead(t *testing.T) {
	for many := 1; many <= 8; many++ {
		for _, words := range []int{1, 2, 63, 64} {
			b := full(many, words)
			for _, bank := range []int{0, many / 2, many - 1} {
				for _, at := range []int{0, words / 2, words - 1} {
					for _, w := range []uint32{0, 1, 1 << 31, top - 1, top, word(bank, at)} {
						got, err := parity.Write(b, bank, at, w)
						rows := rowsOf(many, words)
						rows[bank][at] = w
						if err != api.OK || !alike(got, whole(rows)) || !parity.Right(got) {
							t.Fatalf("%d banks of %d: %d written at %d of %d: %v, %d", many, words, w, at, bank, got, err)
						}
						becomes(t, "read back", got, deed{call: "Read", bank: bank, at: at}, done{b: got, w: w})
					}
				}
			}
		}
	}
}

// P7.1: one word written over and over: Par is what it is then, not what it was.
func TestWriteAgain(t *testing.T) {
	b := full(4, 3)
	for _, w := range []uint32{7, 7, 0, top, 0, 9, word(2, 1)} {
		next, err := parity.Write(b, 2, 1, w)
		if err != api.OK || next.Rows[2][1] != w || !slices.Equal(next.Par, parOf(next.Rows)) {
			t.Fatalf("%d written again: %v, %d", w, next, err)
		}
		b = next
	}
	if !alike(b, full(4, 3)) {
		t.Errorf("all written back, and the banks are %v", b)
	}
}

// P7.1: Write, while a bank is lost, that one or another: ErrState.
func TestWriteWhileLost(t *testing.T) {
	for many := 1; many <= 8; many++ {
		for lost := range many {
			b := without(full(many, 3), lost)
			for bank := range many {
				for _, w := range []uint32{0, 5, word(bank, 1)} {
					stays(t, "lost", b, deed{call: "Write", bank: bank, at: 1, w: w}, api.ErrState)
				}
			}
		}
	}
}

// P7.1 and P7.2: ErrArg, and the banks as they are, of each call that names a bank or a word that isn't there, whether one is lost or not.
func TestNoSuchPlace(t *testing.T) {
	for name, b := range rights() {
		many, words := len(b.Rows), len(b.Par)
		for _, bank := range append([]int{-1, many, many + 1, 8, 9}, far...) {
			stays(t, name, b, deed{call: "Lose", bank: bank}, api.ErrArg)
			for _, at := range []int{0, words - 1, -1, words} {
				stays(t, name, b, deed{call: "Read", bank: bank, at: at}, api.ErrArg)
				stays(t, name, b, deed{call: "Write", bank: bank, at: at, w: 6}, api.ErrArg)
			}
		}
		for _, at := range append([]int{-1, words, words + 1, 64, 65}, far...) {
			for _, bank := range []int{0, many / 2, many - 1, max(0, b.Lost-1)} {
				stays(t, name, b, deed{call: "Read", bank: bank, at: at}, api.ErrArg)
				stays(t, name, b, deed{call: "Write", bank: bank, at: at, w: 6}, api.ErrArg)
			}
		}
	}
}

// P7.1 and P7.2: each call with banks that aren't right: ErrArg, ahead of all else, and the banks as they are.
func TestWrongBanks(t *testing.T) {
	for name, b := range wrongs() {
		for _, d := range deeds(b) {
			stays(t, name, b, d, api.ErrArg)
		}
	}
}

// P7.1 and P7.2: which error comes first where more than one could be told.
func TestFirstError(t *testing.T) {
	lost := without(full(3, 4), 1)
	stale := turned(lost, func(b *api.Banks) { b.Rows[1][2] = 1 })
	for _, c := range []struct {
		name string
		b    api.Banks
		d    deed
		want api.Errno
	}{
		{"read of the lost bank, no word", lost, deed{call: "Read", bank: 1, at: 4}, api.ErrArg},
		{"read of the lost bank, no word below", lost, deed{call: "Read", bank: 1, at: -1}, api.ErrArg},
		{"read of the lost bank, not right", stale, deed{call: "Read", bank: 1, at: 0}, api.ErrArg},
		{"read of the lost bank", lost, deed{call: "Read", bank: 1, at: 3}, api.ErrState},
		{"write while one is lost, no bank", lost, deed{call: "Write", bank: 3}, api.ErrArg},
		{"write while one is lost, no word", lost, deed{call: "Write", at: 4}, api.ErrArg},
		{"write while one is lost, not right", stale, deed{call: "Write"}, api.ErrArg},
		{"write while one is lost", lost, deed{call: "Write"}, api.ErrState},
		{"lose one more, no bank", lost, deed{call: "Lose", bank: 3}, api.ErrArg},
		{"lose one more, no bank below", lost, deed{call: "Lose", bank: -1}, api.ErrArg},
		{"lose one more, not right", stale, deed{call: "Lose"}, api.ErrArg},
		{"lose one more", lost, deed{call: "Lose"}, api.ErrState},
		{"lose the lost one", lost, deed{call: "Lose", bank: 1}, api.ErrState},
		{"rebuild, not right", stale, deed{call: "Rebuild"}, api.ErrArg},
		{"rebuild, a wrong Par, and none lost", turned(full(3, 4), func(b *api.Banks) { b.Par[0]++ }), deed{call: "Rebuild"}, api.ErrArg},
		{"rebuild, none lost", full(3, 4), deed{call: "Rebuild"}, api.ErrState},
	} {
		stays(t, c.name, c.b, c.d, c.want)
	}
}

// P7.2: Lose, each bank of each size: its words are 0, and it is lost; all else stays. A second one isn't lost: ErrState.
func TestLose(t *testing.T) {
	for many := 1; many <= 8; many++ {
		for _, words := range []int{1, 2, 64} {
			b := full(many, words)
			for bank := range many {
				want := full(many, words)
				want.Rows[bank] = make([]uint32, words)
				want.Lost = bank + 1
				becomes(t, "lost", b, deed{call: "Lose", bank: bank}, done{b: want})
				if got, _ := parity.Lose(b, bank); !parity.Right(got) {
					t.Errorf("%d banks of %d, %d lost: not right", many, words, bank)
				}
				for other := range many {
					stays(t, "one more", want, deed{call: "Lose", bank: other}, api.ErrState)
				}
			}
		}
	}
}

// P7.2: Rebuild, by hand: the lost row is what Par and all others are together, even where Par wasn't what the rows were.
func TestRebuild(t *testing.T) {
	for _, c := range []struct {
		rows [][]uint32
		par  []uint32
		lost int
		want [][]uint32
	}{
		{[][]uint32{{0}, {6}}, []uint32{3}, 1, [][]uint32{{5}, {6}}},
		{[][]uint32{{5}, {0}}, []uint32{3}, 2, [][]uint32{{5}, {6}}},
		{[][]uint32{{0}}, []uint32{9}, 1, [][]uint32{{9}}},
		{[][]uint32{{0, 0, 0}}, []uint32{0, top, 1}, 1, [][]uint32{{0, top, 1}}},
		{[][]uint32{{1, 2}, {0, 0}, {4, 8}}, []uint32{7, 0}, 2, [][]uint32{{1, 2}, {2, 10}, {4, 8}}},
		{[][]uint32{{0, 0}, {1, 2}, {4, 8}}, []uint32{0, 0}, 1, [][]uint32{{5, 10}, {1, 2}, {4, 8}}},
		{[][]uint32{{1, 2}, {4, 8}, {0, 0}}, []uint32{5, 10}, 3, [][]uint32{{1, 2}, {4, 8}, {0, 0}}},
		{[][]uint32{{top}, {top}, {0}, {1}}, []uint32{1 << 31}, 3, [][]uint32{{top}, {top}, {0x80000001}, {1}}},
	} {
		b := api.Banks{Rows: c.rows, Par: c.par, Lost: c.lost}
		becomes(t, "by hand", b, deed{call: "Rebuild"}, done{b: api.Banks{Rows: c.want, Par: c.par}})
	}
	for many := 1; many <= 8; many++ {
		stays(t, "none lost", full(many, 3), deed{call: "Rebuild"}, api.ErrState)
	}
}

// P7.1 and P7.2: each call, at all edges at once, is what the document asks.
func TestAllCalls(t *testing.T) {
	for name, b := range rights() {
		for _, d := range deeds(b) {
			becomes(t, name, b, d, d.asks(b))
		}
	}
}

// P7.3: each bank of each size lost and rebuilt: all is as it was.
func TestLostAndRebuilt(t *testing.T) {
	for name, b := range rights() {
		if b.Lost != 0 {
			continue
		}
		for bank := range b.Rows {
			gone, err := parity.Lose(b, bank)
			if err != api.OK {
				t.Fatalf("%s: %d", name, err)
			}
			becomes(t, name, gone, deed{call: "Rebuild"}, done{b: b})
		}
	}
}

// lot gives numbers below n that look drawn, the same ones each time.
func lot(state uint64) func(n int) int {
	return func(n int) int {
		state = state*6364136223846793005 + 1442695040888963407
		return int(state>>33) % n
	}
}

// drawn is a deed that is now and then a wrong one.
func drawn(draw func(n int) int, b api.Banks) deed {
	calls := []string{"Read", "Write", "Write", "Write", "Lose", "Rebuild", "Rebuild"}
	d := deed{call: calls[draw(len(calls))], bank: draw(len(b.Rows)), at: draw(len(b.Par)), w: uint32(draw(math.MaxInt32)) * 3}
	if draw(15) == 0 {
		d.bank = draw(len(b.Rows)+2) - 1
		d.at = draw(len(b.Par)+2) - 1
	}
	return d
}

// P7.3: whatever is called one behind another, the banks are what the document asks and stay right; what was written is read, lost and rebuilt in between or not.
func TestDrawnCalls(t *testing.T) {
	for seed := range 200 {
		draw := lot(uint64(seed))
		b, err := parity.New(1+draw(8), 1+draw(64))
		if err != api.OK {
			t.Fatal(err)
		}
		plain := copied(b).Rows
		for range 120 {
			d := drawn(draw, b)
			got, want := d.does(b), d.asks(b)
			if got.err != want.err || got.w != want.w || !alike(got.b, want.b) {
				t.Fatalf("seed %d: %+v of %v = %+v; want %+v", seed, d, b, got, want)
			}
			if d.call == "Write" && got.err == api.OK {
				plain[d.bank][d.at] = d.w
			}
			if d.call == "Read" && got.err == api.OK && got.w != plain[d.bank][d.at] {
				t.Fatalf("seed %d: %+v read %d; written was %d", seed, d, got.w, plain[d.bank][d.at])
			}
			b = got.b
			if !parity.Right(b) {
				t.Fatalf("seed %d: behind %+v the banks aren't right: %v", seed, d, b)
			}
			if b.Lost == 0 && !slices.EqualFunc(b.Rows, plain, slices.Equal) {
				t.Fatalf("seed %d: behind %+v there is %v; written was %v", seed, d, b.Rows, plain)
			}
		}
	}
}

// roomy are the banks b, with spare room behind each row, behind Par and behind the list of rows; all is all of that.
func roomy(b api.Banks) (given api.Banks, all [][]uint32) {
	spare := func(row []uint32) []uint32 {
		return append(slices.Clone(row), 7, 7, 7, 7, 7)[:len(row)]
	}
	for _, row := range b.Rows {
		all = append(all, spare(row))
	}
	for range 3 {
		all = append(all, []uint32{8, 8})
	}
	par := spare(b.Par)
	return api.Banks{Rows: all[:len(b.Rows)], Par: par, Lost: b.Lost}, append(slices.Clone(all), par)
}

// opened are the words of l, and those of each one's spare room.
func opened(l [][]uint32) [][]uint32 {
	c := slices.Clone(l)
	for i, row := range l {
		c[i] = slices.Clone(row[:cap(row)])
	}
	return c
}

// some are banks for the tests that write all over: right ones and wrong ones.
func some() map[string]api.Banks {
	l := rights()
	for name, b := range wrongs() {
		l[name] = b
	}
	return l
}

// Rule 3: no call changes what it is given, nor what lies in the spare room, nor lets that be seen.
func TestLeavesWhatItIsGiven(t *testing.T) {
	for name, b := range some() {
		given, all := roomy(b)
		same, rows := opened(all), slices.Clone(given.Rows[:cap(given.Rows)])
		for _, d := range deeds(b) {
			becomes(t, name, given, d, d.asks(b))
			if parity.Right(given) != right(b) {
				t.Fatalf("%s: Right hangs on the spare room", name)
			}
			if !slices.EqualFunc(opened(all), same, slices.Equal) {
				t.Fatalf("%s: %+v changed what it was given to %v", name, d, all)
			}
			if !slices.EqualFunc(given.Rows[:cap(given.Rows)], rows, slices.Equal) {
				t.Fatalf("%s: %+v changed the list it was given to %v", name, d, given.Rows)
			}
		}
	}
}

// writeOver fills all of b, its rows, Par and all spare room.
func writeOver(b api.Banks) {
	rows := b.Rows[:cap(b.Rows)]
	for i, row := range append(slices.Clone(rows), b.Par) {
		row = row[:cap(row)]
		for at := range row {
			row[at] = 0x66666666
		}
		if i < len(rows) {
			rows[i] = nil
		}
	}
}

// isNew holds the answer of d to sharing no memory with b, nor with the answer of the same call made again.
func isNew(t *testing.T, what string, b api.Banks, d deed) {
	t.Helper()
	given := copied(b)
	first, second := d.does(given).b, d.does(given).b
	if writeOver(first); !alike(given, b) {
		t.Fatalf("%s: the answer of %+v was written over, and what was given is %v", what, d, given)
	}
	if writeOver(given); !alike(second, d.asks(b).b) {
		t.Fatalf("%s: what was given was written over, and the second answer of %+v became %v", what, d, second)
	}
}

// Rules 3 and 4: each answer is new memory: what is written over it is seen neither in what was given nor in another answer, beside an error neither.
func TestAnswersAreNew(t *testing.T) {
	for name, b := range some() {
		for _, d := range deeds(b) {
			if d.call != "Read" {
				isNew(t, name, b, d)
			}
		}
	}
	one, _ := parity.New(3, 2)
	writeOver(one)
	if two, _ := parity.New(3, 2); !alike(two, whole([][]uint32{{0, 0}, {0, 0}, {0, 0}})) {
		t.Errorf("an answer of New was written over, and the next one is %v", two)
	}
}

// apart holds the rows of b and its Par to sharing no memory, their spare room neither.
func apart(t *testing.T, what string, b api.Banks) {
	t.Helper()
	lists := append(slices.Clone(b.Rows), b.Par)
	for i := range lists {
		want := make([][]uint32, len(lists))
		for k, row := range lists {
			want[k] = slices.Clone(row)
		}
		for at := range lists[i] {
			lists[i][at]++
			want[i][at]++
		}
		_ = append(lists[i], 0x66, 0x66, 0x66)
		if !slices.EqualFunc(lists, want, slices.Equal) {
			t.Fatalf("%s: row %d written over, and the rows are %v; want %v", what, i, lists, want)
		}
	}
}

// Rule 3: no two rows of an answer share memory, nor a row and Par, not even where those that were given did.
func TestRowsAreApart(t *testing.T) {
	same, zero := []uint32{5, 6}, []uint32{0, 0}
	shared := map[string]api.Banks{
		"one row thrice, and Par":       {Rows: [][]uint32{same, same, same}, Par: same},
		"one row twice, one in between": {Rows: [][]uint32{same, {3, 4}, same}, Par: []uint32{3, 4}},
		"one row twice, another lost":   {Rows: [][]uint32{same, zero, same}, Par: []uint32{7, 9}, Lost: 2},
		"the lost row twice":            {Rows: [][]uint32{zero, zero, same}, Par: []uint32{1, 1}, Lost: 1},
		"the lost row and Par":          {Rows: [][]uint32{zero, same}, Par: zero, Lost: 1},
		"the only row and Par":          {Rows: [][]uint32{same}, Par: same},
		"noughts":                       {Rows: [][]uint32{zero, zero}, Par: zero},
		"one that is wrong":             {Rows: [][]uint32{same, same}, Par: same},
		"none of them shared":           full(3, 2),
	}
	for name, b := range shared {
		before := copied(b)
		for _, d := range deeds(b) {
			if d.call == "Read" {
				continue
			}
			want := d.asks(before)
			becomes(t, name, b, d, want)
			apart(t, name, d.does(b).b)
			if !alike(b, before) {
				t.Fatalf("%s: %+v changed what it was given to %v", name, d, b)
			}
		}
	}
	b, _ := parity.New(8, 64)
	apart(t, "New", b)
	b, _ = parity.New(2, 1)
	apart(t, "New", b)
}
