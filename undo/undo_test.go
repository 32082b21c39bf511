package undo_test

import (
	"fmt"
	"maps"
	"math"
	"slices"
	"testing"

	"backstay/api"
	"backstay/undo"
)

// end is the last interval there is.
const end = 1 << 40

const top = math.MaxUint32

// far are numbers of neither words nor intervals of short logs, some of which a narrower integer would take for one.
var far = []int{-2, -64, -255, -256, 255, 256, 257, 65536, 65536 + 1, 1 << 32, 1<<32 + 1, -1 << 32, end + 2, 1 << 41, math.MaxInt32, math.MinInt32, math.MaxInt, math.MaxInt - 1, math.MinInt, math.MinInt + 1}

// copied is a log as l is, that shares no memory with it.
func copied(l api.Log) api.Log {
	return api.Log{Mem: slices.Clone(l.Mem), Span: l.Span, List: slices.Clone(l.List)}
}

// alike answers whether a and b are; a list is nil or empty alike.
func alike(a, b api.Log) bool {
	return a.Span == b.Span && slices.Equal(a.Mem, b.Mem) && slices.Equal(a.List, b.List)
}

// turned is the log l with something of it turned.
func turned(l api.Log, by func(l *api.Log)) api.Log {
	l = copied(l)
	by(&l)
	return l
}

// word is what the word at was, or is, in the interval span: another one for each.
func word(span, at int) uint32 {
	return uint32(span%1000*64+at+1) * 0x01020305
}

// plain is a log of so many words in the interval span, in which nothing was written.
func plain(words, span int) api.Log {
	l := api.Log{Span: span}
	for at := range words {
		l.Mem = append(l.Mem, word(span, at))
	}
	return l
}

// kept is a log of so many words in the interval span, with so many in its list: the words of the interval ahead of span, of the one ahead of that, and so on, those of one interval by falling numbers, a middle one last. Of the interval span there is none.
func kept(words, span, many int) api.Log {
	l := plain(words, span)
	for n := range many {
		then, at := span-1-n/words, (n+words/2)%words
		l.List = append(l.List, of(then, at, word(then, at)))
	}
	slices.Reverse(l.List)
	return l
}

// deed is a call: which, and with what; at is the number of words of New, and the interval of Back and Trim.
type deed struct {
	call string
	at   int
	w    uint32
}

// done is what became of it.
type done struct {
	l   api.Log
	err api.Errno
}

// does is what the program makes of d.
func (d deed) does(l api.Log) done {
	var got done
	switch d.call {
	case "New":
		got.l, got.err = undo.New(d.at)
	case "Write":
		got.l, got.err = undo.Write(l, d.at, d.w)
	case "Next":
		got.l, got.err = undo.Next(l)
	case "Back":
		got.l, got.err = undo.Back(l, d.at)
	case "Trim":
		got.l, got.err = undo.Trim(l, d.at)
	}
	return got
}

// right answers whether the document takes l for right.
func right(l api.Log) bool {
	if len(l.Mem) < 1 || len(l.Mem) > 64 || l.Span < 0 || l.Span > end || len(l.List) > 256 {
		return false
	}
	for n, u := range l.List {
		if u.Span < 0 || u.Span > l.Span || u.At < 0 || u.At >= len(l.Mem) || n > 0 && u.Span < l.List[n-1].Span {
			return false
		}
		for _, v := range l.List[:n] {
			if v.Span == u.Span && v.At == u.At {
				return false
			}
		}
	}
	return true
}

// asks is what the document asks of d, told without the program.
func (d deed) asks(l api.Log) done {
	now := copied(l)
	if d.mayNot(l) {
		return done{l: now, err: api.ErrArg}
	}
	switch d.call {
	case "Write":
		there := slices.ContainsFunc(l.List, func(u api.Undo) bool { return u.Span == l.Span && u.At == d.at })
		if !there && len(l.List) == 256 {
			return done{l: now, err: api.ErrFull}
		}
		if !there {
			now.List = append(now.List, of(l.Span, d.at, l.Mem[d.at]))
		}
		now.Mem[d.at] = d.w
	case "Next":
		now.Span = l.Span + 1
	case "Back":
		now.Span, now.List = d.at, nil
		for n := len(l.List) - 1; n >= 0; n-- {
			if u := l.List[n]; u.Span >= d.at {
				now.Mem[u.At] = u.Val
			} else {
				now.List = slices.Insert(now.List, 0, u)
			}
		}
	case "Trim":
		now.List = nil
		for _, u := range l.List {
			if u.Span >= d.at {
				now.List = append(now.List, u)
			}
		}
	}
	return done{l: now}
}

// mayNot answers whether d is ErrArg, with the log l.
func (d deed) mayNot(l api.Log) bool {
	switch d.call {
	case "Write":
		return !right(l) || d.at < 0 || d.at >= len(l.Mem)
	case "Next":
		return !right(l) || l.Span == end
	}
	return !right(l) || d.at < 0 || d.at > l.Span
}

// same answers whether a and b are.
func (a done) same(b done) bool {
	return alike(a.l, b.l) && a.err == b.err
}

// becomes holds the program to making want of d.
func becomes(t *testing.T, what string, l api.Log, d deed, want done) {
	t.Helper()
	if got := d.does(l); !got.same(want) {
		t.Errorf("%s: %+v of %v\n= %+v\nwant %+v", what, d, l, got, want)
	}
}

// stays holds the program to leaving the log as it is, with that error.
func stays(t *testing.T, what string, l api.Log, d deed, err api.Errno) {
	t.Helper()
	becomes(t, what, l, d, done{l: l, err: err})
}

// usual is a log of three words, two of which were written in the interval 1, one in 3, and all in 4, where it is.
func usual() api.Log {
	return api.Log{Mem: []uint32{40, 41, 42}, Span: 4, List: []api.Undo{
		of(1, 2, 12), of(1, 0, 10), of(3, 0, 30), of(4, 1, 31), of(4, 0, 32), of(4, 2, 33),
	}}
}

// of is what a word of an interval was ahead of its first write there.
func of(span, at int, val uint32) api.Undo {
	return api.Undo{Span: span, At: at, Val: val}
}

// rights are logs that may be.
func rights() map[string]api.Log {
	return map[string]api.Log{
		"the document's example":               {Mem: []uint32{7}, Span: 1, List: []api.Undo{of(0, 0, 0), of(1, 0, 5)}},
		"usual":                                usual(),
		"one word":                             plain(1, 0),
		"64 words":                             plain(64, 0),
		"63 words, far on":                     plain(63, 1<<33),
		"an empty list":                        {Mem: []uint32{1, 2}, List: []api.Undo{}},
		"in the last interval":                 plain(2, end),
		"one ahead of the last interval":       plain(2, end-1),
		"one kept, of the last interval":       turned(plain(2, end), keeps(of(end, 1, top))),
		"one kept, of the interval 0":          turned(plain(2, end), keeps(of(0, 1, top))),
		"one kept, of its one interval":        turned(plain(1, 0), keeps(of(0, 0, 9))),
		"one word, 255 intervals":              kept(1, 255, 255),
		"one word, 256 intervals":              kept(1, 256, 256),
		"one word, 256 intervals, one of it":   turned(kept(1, 256, 255), keeps(of(256, 0, 9))),
		"one word, the last 256 intervals":     kept(1, end, 256),
		"two words, 256 kept":                  kept(2, 128, 256),
		"seven words, 255 kept":                kept(7, 1000, 255),
		"64 words, 254 kept":                   kept(64, 4, 254),
		"64 words, 255 kept":                   kept(64, 4, 255),
		"64 words, 256 kept":                   kept(64, 4, 256),
		"64 words, 256 kept, far on":           kept(64, 1<<33, 256),
		"64 words, 256 kept, some of it":       turned(kept(64, 4, 253), keeps(of(4, 63, 0), of(4, 0, 0), of(4, 7, 0))),
		"64 words, 255 kept, some of it":       turned(kept(64, 4, 252), keeps(of(4, 63, 0), of(4, 0, 0), of(4, 7, 0))),
		"intervals that are 2^32 apart":        turned(plain(1, 1<<33), keeps(of(0, 0, 0), of(1<<32, 0, 0), of(1<<33, 0, 0))),
		"intervals that are 64 and 256 apart":  turned(plain(1, 320), keeps(of(0, 0, 0), of(64, 0, 0), of(256, 0, 0), of(320, 0, 0))),
		"an interval that is another one's At": turned(plain(2, 1), keeps(of(0, 1, 0), of(1, 0, 0))),
		"all Val alike":                        turned(plain(3, 1), keeps(of(0, 1, 0), of(0, 2, 0), of(1, 1, 0))),
		"falling At":                           turned(plain(3, 0), keeps(of(0, 2, 0), of(0, 1, 0), of(0, 0, 0))),
	}
}

// keeps puts these at the end of a log's list.
func keeps(all ...api.Undo) func(l *api.Log) {
	return func(l *api.Log) { l.List = append(l.List, all...) }
}

// wrongs are logs that may not be.
func wrongs() map[string]api.Log {
	l := map[string]api.Log{
		"nothing":                  {},
		"an empty list of words":   {Mem: []uint32{}},
		"no words, far on":         {Span: 9},
		"no words, one kept":       turned(plain(0, 1), keeps(of(0, 0, 0))),
		"65 words":                 plain(65, 0),
		"65 words, 64 kept":        turned(kept(64, 1, 64), func(l *api.Log) { l.Mem = append(l.Mem, 0) }),
		"256 + 1 words":            plain(257, 3),
		"257 kept":                 kept(64, 5, 257),
		"257 kept of one word":     kept(1, 257, 257),
		"257 kept, one of it":      turned(kept(64, 4, 256), keeps(of(4, 5, 0))),
		"256 + 256 kept":           kept(64, 8, 512),
		"256 kept, one of them -1": kept(1, 255, 256),
	}
	for _, n := range append([]int{-1, end + 1}, far...) {
		if n < 0 || n > end {
			l["Span "+name(n)] = plain(2, n)
			l["Span "+name(n)+", one kept"] = turned(usual(), func(l *api.Log) { l.Span = n })
		}
	}
	for about, right := range rights() {
		for n := range right.List {
			if n > 5 && n < len(right.List)-2 {
				continue
			}
			for how, by := range wrongOnes() {
				l[about+": "+how+" at the place "+name(n)] = turned(right, func(l *api.Log) { by(l, &l.List[n]) })
			}
		}
		if len(right.List) > 0 && len(right.List) < 256 {
			maps.Copy(l, wrongTwos(about, right))
		}
	}
	l["less than the one's ahead, at the beginning"] = turned(usual(), func(l *api.Log) { l.List[1].Span = 0 })
	l["less than the one's ahead, in between"] = turned(usual(), func(l *api.Log) { l.List[2].Span = 0 })
	l["less than the one's ahead, at the end"] = turned(usual(), func(l *api.Log) { l.List[5].Span = 2 })
	l["one more than the one's behind"] = turned(usual(), func(l *api.Log) { l.List[0].Span = 2 })
	l["two that changed places"] = turned(usual(), func(l *api.Log) { l.List[1], l.List[2] = l.List[2], l.List[1] })
	l["all the other way round"] = turned(usual(), func(l *api.Log) { slices.Reverse(l.List) })
	return l
}

// name is n as a name has it.
func name(n int) string {
	return fmt.Sprint(n)
}

// wrongOnes make one of a right log's list a wrong one.
func wrongOnes() map[string]func(l *api.Log, u *api.Undo) {
	return map[string]func(l *api.Log, u *api.Undo){
		"Span one more than the log's": func(l *api.Log, u *api.Undo) { u.Span = l.Span + 1 },
		"Span far below":               func(l *api.Log, u *api.Undo) { u.Span = math.MinInt },
		"Span far above":               func(l *api.Log, u *api.Undo) { u.Span = math.MaxInt },
		"Span -1":                      func(l *api.Log, u *api.Undo) { u.Span = -1 },
		"At -1":                        func(l *api.Log, u *api.Undo) { u.At = -1 },
		"At one behind the last":       func(l *api.Log, u *api.Undo) { u.At = len(l.Mem) },
		"At 64":                        func(l *api.Log, u *api.Undo) { u.At = 64 },
		"At with bits above":           func(l *api.Log, u *api.Undo) { u.At += 1 << 32 },
		"At with a byte above":         func(l *api.Log, u *api.Undo) { u.At += 256 },
		"At far below":                 func(l *api.Log, u *api.Undo) { u.At = math.MinInt },
		"At far above":                 func(l *api.Log, u *api.Undo) { u.At = math.MaxInt },
	}
}

// wrongTwos are right, of which one stands twice with one Span: next to it, and behind all of that Span; with another Val and with its own.
func wrongTwos(about string, right api.Log) map[string]api.Log {
	l := map[string]api.Log{}
	for n, u := range right.List {
		if n > 3 && n < len(right.List)-2 && n%50 > 0 {
			continue
		}
		last := n
		for last+1 < len(right.List) && right.List[last+1].Span == u.Span {
			last++
		}
		for _, val := range []uint32{u.Val, u.Val + 1} {
			for _, at := range []int{n + 1, last + 1} {
				twice := of(u.Span, u.At, val)
				l[about+": that of the place "+name(n)+" at "+name(at)+", too, with "+name(int(val))] = turned(right, func(l *api.Log) { l.List = slices.Insert(l.List, at, twice) })
			}
		}
	}
	return l
}

// numbers are such as words and intervals may have in l, and edges; the most that there are, one more, and such as aren't there.
func numbers(l api.Log) []int {
	all := append([]int{-1, 0, 1, 2, len(l.Mem) - 2, len(l.Mem) - 1, len(l.Mem), len(l.Mem) + 1, 63, 64, 65, l.Span - 2, l.Span - 1, l.Span, end - 1, end, end + 1}, far...)
	if l.Span < math.MaxInt {
		all = append(all, l.Span+1)
	}
	for n, u := range l.List {
		if n < 8 || n > len(l.List)-8 {
			all = append(all, u.Span, u.At)
		}
	}
	slices.Sort(all)
	return slices.Compact(all)
}

// deeds are each call that takes a log, with all numbers there are for it.
func deeds(l api.Log) []deed {
	all := []deed{{call: "Next"}}
	for _, n := range numbers(l) {
		all = append(all, deed{call: "Back", at: n}, deed{call: "Trim", at: n}, deed{call: "Write", at: n, w: 0xfedcba98})
		if 0 <= n && n < len(l.Mem) {
			all = append(all, deed{call: "Write", at: n, w: l.Mem[n]}, deed{call: "Write", at: n})
		}
	}
	return all
}

// P11.1: Right, of logs that may be and of such as may not, in each way that the chapter names.
func TestRight(t *testing.T) {
	for about, l := range rights() {
		if !right(l) || !undo.Right(l) {
			t.Errorf("%s: not right: %v", about, l)
		}
	}
	for about, l := range wrongs() {
		if right(l) || undo.Right(l) {
			t.Errorf("%s: right: %v", about, l)
		}
	}
}

// P11.1: Right, of each number of words, and of each interval and word of the only one in the list.
func TestRightEdges(t *testing.T) {
	for words := range 300 {
		if got := undo.Right(plain(words, 0)); got != (1 <= words && words <= 64) {
			t.Errorf("%d words: Right is %t", words, got)
		}
	}
	for _, span := range append([]int{-1, 0, 1, end - 1, end, end + 1}, far...) {
		if got := undo.Right(plain(3, span)); got != (0 <= span && span <= end) {
			t.Errorf("in the interval %d: Right is %t", span, got)
		}
		for _, then := range append([]int{-1, 0, 1, span / 2, end - 1, end, end + 1}, far...) {
			for at := -1; at <= 4; at++ {
				l := turned(plain(3, span), keeps(of(then, at, 0)))
				want := 0 <= span && span <= end && 0 <= then && then <= span && 0 <= at && at < 3
				if got := undo.Right(l); got != want {
					t.Errorf("in the interval %d, the word %d of the interval %d is kept: Right is %t", span, at, then, got)
				}
			}
		}
	}
	for many := range 300 {
		if got := undo.Right(kept(64, 6, many)); got != (many <= 256) {
			t.Errorf("%d in List: Right is %t", many, got)
		}
	}
}

// P11.1: Right, of all lists of up to three of two words and three intervals, near edges.
func TestRightAllLists(t *testing.T) {
	var ones []api.Undo
	for span := -1; span <= 3; span++ {
		for at := -1; at <= 2; at++ {
			ones = append(ones, of(span, at, 5))
		}
	}
	l := plain(2, 2)
	for _, a := range ones {
		l.List = []api.Undo{a}
		asRight(t, l)
		for _, b := range ones {
			l.List = []api.Undo{a, b}
			asRight(t, l)
			for _, c := range ones {
				l.List = []api.Undo{a, b, c}
				asRight(t, l)
			}
		}
	}
}

// asRight holds Right and Room to the document, with l.
func asRight(t *testing.T, l api.Log) {
	t.Helper()
	room := 0
	if right(l) {
		room = 256 - len(l.List)
	}
	if undo.Right(l) != right(l) || undo.Room(l) != room {
		t.Errorf("%v: right is %t, with room for %d", l, undo.Right(l), undo.Room(l))
	}
}

// P11.1: New, of all numbers of words there may be: all 0, in the interval 0, with room for 256; of others: none, and ErrArg.
func TestNew(t *testing.T) {
	for words := 1; words <= 64; words++ {
		l, err := undo.New(words)
		if want := (api.Log{Mem: make([]uint32, words)}); err != api.OK || !alike(l, want) || !undo.Right(l) || undo.Room(l) != 256 {
			t.Errorf("New(%d) = %v, %d", words, l, err)
		}
	}
	for _, words := range append([]int{-1, 0, 65, 66, 128, 257 + 63, end}, far...) {
		if l, err := undo.New(words); err != api.ErrArg || l.Mem != nil || l.Span != 0 || l.List != nil {
			t.Errorf("New(%d) = %v, %d", words, l, err)
		}
	}
}

// P11.1 and P11.2: the document's example.
func TestExample(t *testing.T) {
	l, err := undo.New(1)
	for _, d := range []deed{{"Write", 0, 5}, {"Next", 0, 0}, {"Write", 0, 6}, {"Write", 0, 7}} {
		got := d.does(l)
		if err != api.OK || got.err != api.OK {
			t.Fatalf("%+v: %d", d, got.err)
		}
		l = got.l
	}
	if want := (api.Log{Mem: []uint32{7}, Span: 1, List: []api.Undo{of(0, 0, 0), of(1, 0, 5)}}); !alike(l, want) {
		t.Errorf("written: %v", l)
	}
	becomes(t, "example", l, deed{call: "Back", at: 1}, done{l: api.Log{Mem: []uint32{5}, Span: 1, List: []api.Undo{of(0, 0, 0)}}})
	becomes(t, "example", l, deed{call: "Back", at: 0}, done{l: api.Log{Mem: []uint32{0}, Span: 0}})
}

// step is a deed and what is in the log behind it.
type step struct {
	d    deed
	span int
	mem  []uint32
	list []api.Undo
}

// plays holds the program to each step, one behind another.
func plays(t *testing.T, what string, l api.Log, steps []step) {
	t.Helper()
	for n, s := range steps {
		got := s.d.does(l)
		want := done{l: api.Log{Mem: s.mem, Span: s.span, List: s.list}}
		if !got.same(want) || undo.Room(got.l) != 256-len(s.list) {
			t.Fatalf("%s, step %d: %+v\n= %+v\nwant %+v", what, n, s.d, got, want)
		}
		l = got.l
	}
}

// P11.1: words written once and more than once, in one interval and in several, several of them, as they are; Next where nothing was written.
func TestWrite(t *testing.T) {
	three := api.Log{Mem: []uint32{1, 2, 3}}
	plays(t, "by hand", three, []step{
		{deed{"Write", 1, 20}, 0, []uint32{1, 20, 3}, []api.Undo{of(0, 1, 2)}},
		{deed{"Write", 1, 21}, 0, []uint32{1, 21, 3}, []api.Undo{of(0, 1, 2)}},
		{deed{"Write", 2, 3}, 0, []uint32{1, 21, 3}, []api.Undo{of(0, 1, 2), of(0, 2, 3)}},
		{deed{"Write", 2, 30}, 0, []uint32{1, 21, 30}, []api.Undo{of(0, 1, 2), of(0, 2, 3)}},
		{deed{"Write", 0, top}, 0, []uint32{top, 21, 30}, []api.Undo{of(0, 1, 2), of(0, 2, 3), of(0, 0, 1)}},
		{deed{"Write", 1, 2}, 0, []uint32{top, 2, 30}, []api.Undo{of(0, 1, 2), of(0, 2, 3), of(0, 0, 1)}},
		{deed{"Next", 0, 0}, 1, []uint32{top, 2, 30}, []api.Undo{of(0, 1, 2), of(0, 2, 3), of(0, 0, 1)}},
		{deed{"Next", 0, 0}, 2, []uint32{top, 2, 30}, []api.Undo{of(0, 1, 2), of(0, 2, 3), of(0, 0, 1)}},
		{deed{"Write", 0, 0}, 2, []uint32{0, 2, 30}, []api.Undo{of(0, 1, 2), of(0, 2, 3), of(0, 0, 1), of(2, 0, top)}},
		{deed{"Write", 0, 7}, 2, []uint32{7, 2, 30}, []api.Undo{of(0, 1, 2), of(0, 2, 3), of(0, 0, 1), of(2, 0, top)}},
		{deed{"Write", 1, 2}, 2, []uint32{7, 2, 30}, []api.Undo{of(0, 1, 2), of(0, 2, 3), of(0, 0, 1), of(2, 0, top), of(2, 1, 2)}},
		{deed{"Next", 0, 0}, 3, []uint32{7, 2, 30}, []api.Undo{of(0, 1, 2), of(0, 2, 3), of(0, 0, 1), of(2, 0, top), of(2, 1, 2)}},
		{deed{"Write", 0, 8}, 3, []uint32{8, 2, 30}, []api.Undo{of(0, 1, 2), of(0, 2, 3), of(0, 0, 1), of(2, 0, top), of(2, 1, 2), of(3, 0, 7)}},
	})
}

// P11.1: Write, of each word of each size, from a log where it wasn't written in the present interval, and once more.
func TestWriteEachWord(t *testing.T) {
	for _, words := range []int{1, 2, 7, 63, 64} {
		for _, span := range []int{0, 1, 5, 1 << 32, end} {
			for at := range words {
				l := plain(words, span)
				for n, w := range []uint32{9, 0, top, l.Mem[at]} {
					want := turned(plain(words, span), keeps(api.Undo{Span: span, At: at, Val: word(span, at)}))
					want.Mem[at] = w
					d := deed{"Write", at, w}
					becomes(t, "write number "+name(n), l, d, done{l: want})
					l = want
				}
			}
		}
	}
}

// P11.1: Write, where List has 255, 256 of other intervals, and 256 of which some are of the present one.
func TestWriteFull(t *testing.T) {
	short := kept(64, 4, 255)
	want := turned(short, keeps(of(4, 9, short.Mem[9])))
	want.Mem[9] = 77
	becomes(t, "the last that may be put", short, deed{"Write", 9, 77}, done{l: want})
	stays(t, "one more", want, deed{"Write", 10, 78}, api.ErrFull)
	stays(t, "one more, as it is", want, deed{"Write", 10, want.Mem[10]}, api.ErrFull)
	becomes(t, "the same word again", want, deed{"Write", 9, 79}, done{l: turned(want, func(l *api.Log) { l.Mem[9] = 79 })})
	again := turned(want, func(l *api.Log) { l.Span = 5 })
	stays(t, "the same word in the next interval", again, deed{"Write", 9, 80}, api.ErrFull)
	for at := range 64 {
		stays(t, "256 of other intervals", kept(64, 4, 256), deed{"Write", at, 5}, api.ErrFull)
	}
	some := rights()["64 words, 256 kept, some of it"]
	for at := range 64 {
		d := deed{"Write", at, 6}
		if at == 63 || at == 0 || at == 7 {
			becomes(t, "there already", some, d, done{l: turned(some, func(l *api.Log) { l.Mem[at] = 6 })})
		} else {
			stays(t, "not there yet", some, d, api.ErrFull)
		}
	}
}

// P11.1: a new log written to the full, interval by interval, Room one less with each: then nothing more is put, but what is there already is written.
func TestWriteToTheFull(t *testing.T) {
	l, _ := undo.New(64)
	for n := range 256 {
		if n > 0 && n%64 == 0 {
			l, _ = undo.Next(l)
		}
		if undo.Room(l) != 256-n {
			t.Fatalf("%d are put, and there is room for %d", n, undo.Room(l))
		}
		got, err := undo.Write(l, n%64, uint32(n))
		if err != api.OK || len(got.List) != n+1 {
			t.Fatalf("%d are put, and one more: %d, %v", n, err, got)
		}
		l = got
	}
	if undo.Room(l) != 0 || !undo.Right(l) {
		t.Errorf("256 are put, and there is room for %d", undo.Room(l))
	}
	for at := range 64 {
		becomes(t, "full", l, deed{"Write", at, 1}, done{l: turned(l, func(l *api.Log) { l.Mem[at] = 1 })})
	}
	next, err := undo.Next(l)
	if err != api.OK {
		t.Fatal(err)
	}
	stays(t, "full, the next interval", next, deed{"Write", 0, 1}, api.ErrFull)
	becomes(t, "full, gone back", next, deed{call: "Back", at: 0}, done{l: api.Log{Mem: make([]uint32, 64)}})
}

// P11.1: Room, of logs that may be and of such as may not.
func TestRoom(t *testing.T) {
	for about, l := range rights() {
		if got := undo.Room(l); got != 256-len(l.List) {
			t.Errorf("%s: room for %d beside %d", about, got, len(l.List))
		}
	}
	for about, l := range wrongs() {
		if got := undo.Room(l); got != 0 {
			t.Errorf("%s: room for %d", about, got)
		}
	}
}

// P11.1: Next, near the last interval; all else stays.
func TestNext(t *testing.T) {
	for _, span := range []int{0, 1, 2, 63, 255, 256, math.MaxInt32, math.MaxUint32, end - 2, end - 1} {
		l := turned(plain(2, span), keeps(of(span, 1, 8)))
		becomes(t, "next", l, deed{call: "Next"}, done{l: turned(l, func(l *api.Log) { l.Span++ })})
	}
	stays(t, "the last one", plain(2, end), deed{call: "Next"}, api.ErrArg)
	stays(t, "the last one, 256 kept", kept(1, end, 256), deed{call: "Next"}, api.ErrArg)
	l, err := undo.Next(plain(2, end-1))
	if err != api.OK || l.Span != end || !undo.Right(l) {
		t.Errorf("one ahead of the last one: %v, %d", l, err)
	}
}

// P11.2: Back, to each interval there is, by hand.
func TestBack(t *testing.T) {
	for to, want := range []api.Log{
		{Mem: []uint32{10, 31, 12}, Span: 0},
		{Mem: []uint32{10, 31, 12}, Span: 1},
		{Mem: []uint32{30, 31, 33}, Span: 2, List: usual().List[:2]},
		{Mem: []uint32{30, 31, 33}, Span: 3, List: usual().List[:2]},
		{Mem: []uint32{32, 31, 33}, Span: 4, List: usual().List[:3]},
	} {
		becomes(t, "by hand", usual(), deed{call: "Back", at: to}, done{l: want})
	}
	unlike := api.Log{Mem: []uint32{3, 4}, Span: 6, List: []api.Undo{of(0, 0, 1), of(2, 0, 9), of(5, 0, 7)}}
	becomes(t, "what was ahead of one isn't what it was ahead of the next", unlike, deed{call: "Back", at: 0}, done{l: api.Log{Mem: []uint32{1, 4}}})
	becomes(t, "an interval in which nothing was written", unlike, deed{call: "Back", at: 3}, done{l: api.Log{Mem: []uint32{7, 4}, Span: 3, List: unlike.List[:2]}})
	becomes(t, "the present one, in which nothing was written", unlike, deed{call: "Back", at: 6}, done{l: unlike})
}

// P11.2: Trim, to each interval there is, by hand: the words and the interval stay.
func TestTrim(t *testing.T) {
	for below, first := range []int{0, 0, 2, 2, 3} {
		want := usual()
		want.List = want.List[first:]
		becomes(t, "by hand", usual(), deed{call: "Trim", at: below}, done{l: want})
	}
	next := turned(usual(), func(l *api.Log) { l.Span = 5 })
	becomes(t, "all", next, deed{call: "Trim", at: 5}, done{l: api.Log{Mem: []uint32{40, 41, 42}, Span: 5}})
	becomes(t, "nothing is kept", plain(3, 9), deed{call: "Trim", at: 9}, done{l: plain(3, 9)})
}

// P11.2: going back and going on behind it; trimming, and going back behind that.
func TestBackAndOn(t *testing.T) {
	plays(t, "on behind", api.Log{Mem: []uint32{1, 2}}, []step{
		{deed{"Write", 0, 5}, 0, []uint32{5, 2}, []api.Undo{of(0, 0, 1)}},
		{deed{"Next", 0, 0}, 1, []uint32{5, 2}, []api.Undo{of(0, 0, 1)}},
		{deed{"Write", 0, 6}, 1, []uint32{6, 2}, []api.Undo{of(0, 0, 1), of(1, 0, 5)}},
		{deed{"Back", 1, 0}, 1, []uint32{5, 2}, []api.Undo{of(0, 0, 1)}},
		{deed{"Write", 0, 7}, 1, []uint32{7, 2}, []api.Undo{of(0, 0, 1), of(1, 0, 5)}},
		{deed{"Write", 1, 8}, 1, []uint32{7, 8}, []api.Undo{of(0, 0, 1), of(1, 0, 5), of(1, 1, 2)}},
		{deed{"Next", 0, 0}, 2, []uint32{7, 8}, []api.Undo{of(0, 0, 1), of(1, 0, 5), of(1, 1, 2)}},
		{deed{"Write", 1, 9}, 2, []uint32{7, 9}, []api.Undo{of(0, 0, 1), of(1, 0, 5), of(1, 1, 2), of(2, 1, 8)}},
		{deed{"Back", 0, 0}, 0, []uint32{1, 2}, nil},
		{deed{"Write", 1, 4}, 0, []uint32{1, 4}, []api.Undo{of(0, 1, 2)}},
		{deed{"Back", 0, 0}, 0, []uint32{1, 2}, nil},
		{deed{"Back", 0, 0}, 0, []uint32{1, 2}, nil},
	})
	plays(t, "trimmed", usual(), []step{
		{deed{"Trim", 3, 0}, 4, []uint32{40, 41, 42}, usual().List[2:]},
		{deed{"Trim", 0, 0}, 4, []uint32{40, 41, 42}, usual().List[2:]},
		{deed{"Write", 0, 50}, 4, []uint32{50, 41, 42}, usual().List[2:]},
		{deed{"Back", 4, 0}, 4, []uint32{32, 31, 33}, usual().List[2:3]},
		{deed{"Write", 2, 51}, 4, []uint32{32, 31, 51}, []api.Undo{of(3, 0, 30), of(4, 2, 33)}},
		{deed{"Back", 3, 0}, 3, []uint32{30, 31, 33}, nil},
		{deed{"Back", 0, 0}, 0, []uint32{30, 31, 33}, nil},
		{deed{"Write", 0, 2}, 0, []uint32{2, 31, 33}, []api.Undo{of(0, 0, 30)}},
		{deed{"Trim", 0, 0}, 0, []uint32{2, 31, 33}, []api.Undo{of(0, 0, 30)}},
		{deed{"Next", 0, 0}, 1, []uint32{2, 31, 33}, []api.Undo{of(0, 0, 30)}},
		{deed{"Trim", 1, 0}, 1, []uint32{2, 31, 33}, nil},
		{deed{"Back", 0, 0}, 0, []uint32{2, 31, 33}, nil},
	})
}

// P11.1 and P11.2: each number of a word and an interval that isn't there: ErrArg, and the log as it is.
func TestNoSuchPlace(t *testing.T) {
	for about, l := range rights() {
		for _, n := range append([]int{-1, len(l.Mem), len(l.Mem) + 1}, far...) {
			if n < 0 || n >= len(l.Mem) {
				stays(t, about, l, deed{"Write", n, 6}, api.ErrArg)
			}
		}
		for _, n := range append([]int{-1, l.Span + 1, l.Span + 2, end + 1}, far...) {
			if n < 0 || n > l.Span {
				stays(t, about, l, deed{call: "Back", at: n}, api.ErrArg)
				stays(t, about, l, deed{call: "Trim", at: n}, api.ErrArg)
			}
		}
	}
}

// P11.1 and P11.2: each call with a log that isn't right: ErrArg, and the log as it is.
func TestWrongLogs(t *testing.T) {
	for about, l := range wrongs() {
		for _, d := range deeds(l) {
			stays(t, about, l, d, api.ErrArg)
		}
	}
}

// P11.1 and P11.2: which error comes first where more than one could be told.
func TestFirstError(t *testing.T) {
	full := kept(64, 4, 256)
	for _, c := range []struct {
		about string
		l     api.Log
		d     deed
		want  api.Errno
	}{
		{"full, no such word", full, deed{"Write", 64, 5}, api.ErrArg},
		{"full, no such word below", full, deed{"Write", -1, 5}, api.ErrArg},
		{"full, not right: a Span", turned(full, func(l *api.Log) { l.List[255].Span = 5 }), deed{"Write", 1, 5}, api.ErrArg},
		{"full, not right: an At", turned(full, func(l *api.Log) { l.List[0].At = 64 }), deed{"Write", 1, 5}, api.ErrArg},
		{"full, not right: two alike", turned(full, func(l *api.Log) { l.List[1] = l.List[0] }), deed{"Write", 1, 5}, api.ErrArg},
		{"full, not right: 257", turned(full, keeps(of(4, 0, 0))), deed{"Write", 1, 5}, api.ErrArg},
		{"full, not right: there already", turned(full, keeps(of(4, 0, 0))), deed{"Write", 0, 5}, api.ErrArg},
		{"full, not right: the interval", turned(full, func(l *api.Log) { l.Span = end + 1 }), deed{"Write", 1, 5}, api.ErrArg},
		{"full", full, deed{"Write", 63, 5}, api.ErrFull},
		{"full, in the last interval", kept(64, end, 256), deed{"Write", 63, 5}, api.ErrFull},
	} {
		stays(t, c.about, c.l, c.d, c.want)
	}
}

// P11.1 and P11.2: each call, at all edges at once, is what the document asks.
func TestAllCalls(t *testing.T) {
	for about, l := range rights() {
		for _, d := range deeds(l) {
			becomes(t, about, l, d, d.asks(l))
		}
	}
}
