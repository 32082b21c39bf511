package store_test

import (
	"fmt"
	"maps"
	"math"
	"slices"
	"testing"

	"backstay/api"
	"backstay/store"
)

// end is the last interval there is.
const end = 1 << 40

const top = math.MaxUint32

// far are numbers of neither words nor banks nor intervals of short stores, some of which a narrower integer would take for one.
var far = []int{-2, -64, -255, -256, 255, 256, 257, 65536, 65536 + 1, 1 << 32, 1<<32 + 1, -1 << 32, end + 2, 1 << 41, math.MaxInt32, math.MinInt32, math.MaxInt, math.MaxInt - 1, math.MinInt, math.MinInt + 1}

// copiedBanks are banks as b are, that share no memory with them.
func copiedBanks(b api.Banks) api.Banks {
	rows := slices.Clone(b.Rows)
	for n, row := range rows {
		rows[n] = slices.Clone(row)
	}
	return api.Banks{Rows: rows, Par: slices.Clone(b.Par), Lost: b.Lost}
}

// copied is a store as s is, that shares no memory with it.
func copied(s api.Vault) api.Vault {
	return api.Vault{Banks: copiedBanks(s.Banks), Words: s.Words, Span: s.Span, List: slices.Clone(s.List)}
}

// alikeBanks answers whether a and b are; a list is nil or empty alike.
func alikeBanks(a, b api.Banks) bool {
	return a.Lost == b.Lost && slices.Equal(a.Par, b.Par) && slices.EqualFunc(a.Rows, b.Rows, slices.Equal[[]uint32])
}

// alike answers whether a and b are.
func alike(a, b api.Vault) bool {
	return alikeBanks(a.Banks, b.Banks) && a.Words == b.Words && a.Span == b.Span && slices.Equal(a.List, b.List)
}

// turned is the store s with something of it turned.
func turned(s api.Vault, by ...func(s *api.Vault)) api.Vault {
	s = copied(s)
	for _, one := range by {
		one(&s)
	}
	return s
}

// word is what the word at was, or is, in the interval span: another one for each.
func word(span, at int) uint32 {
	return uint32(span%1000*64+at+1) * 0x01020305
}

// together sets the Par of b to all its rows by exclusive or.
func together(b *api.Banks) {
	for at := range b.Par {
		b.Par[at] = 0
		for _, row := range b.Rows {
			b.Par[at] ^= row[at]
		}
	}
}

// blank are so many banks of so many words, all 0.
func blank(banks, words int) api.Banks {
	b := api.Banks{Par: make([]uint32, words)}
	for range banks {
		b.Rows = append(b.Rows, make([]uint32, words))
	}
	return b
}

// laid are so many banks in which these words lie: word n is the word n / banks of the bank n mod banks.
func laid(mem []uint32, banks int) api.Banks {
	b := blank(banks, (len(mem)+banks-1)/banks)
	for n, w := range mem {
		b.Rows[n%banks][n/banks] = w
	}
	together(&b)
	return b
}

// puts writes w at a place of s, and Par as it is then.
func puts(at int, w uint32) func(s *api.Vault) {
	return func(s *api.Vault) {
		many := len(s.Banks.Rows)
		s.Banks.Rows[at%many][at/many] = w
		together(&s.Banks)
	}
}

// loses makes s lose a bank.
func loses(bank int) func(s *api.Vault) {
	return func(s *api.Vault) {
		clear(s.Banks.Rows[bank])
		s.Banks.Lost = bank + 1
	}
}

// memory is all words of s.
func memory(s api.Vault) []uint32 {
	mem := make([]uint32, s.Words)
	for n := range mem {
		mem[n] = s.Banks.Rows[n%len(s.Banks.Rows)][n/len(s.Banks.Rows)]
	}
	return mem
}

// plain is a store of so many words in so many banks, in the interval span, in which nothing was written.
func plain(words, banks, span int) api.Vault {
	var mem []uint32
	for at := range words {
		mem = append(mem, word(span, at))
	}
	return api.Vault{Banks: laid(mem, banks), Words: words, Span: span}
}

// listed is a store of so many words in so many banks in the interval span, with so many in its list: the words of the interval ahead of span, of the one ahead of that, and so on, those of one interval by falling numbers, a middle one last. Of the interval span there is none.
func listed(words, banks, span, many int) api.Vault {
	s := plain(words, banks, span)
	for n := range many {
		then, at := span-1-n/words, (n+words/2)%words
		s.List = append(s.List, of(then, at, word(then, at)))
	}
	slices.Reverse(s.List)
	return s
}

// of is what a word of an interval was ahead of its first write there.
func of(span, at int, val uint32) api.Undo {
	return api.Undo{Span: span, At: at, Val: val}
}

// keeps puts these at the end of a store's list.
func keeps(all ...api.Undo) func(s *api.Vault) {
	return func(s *api.Vault) { s.List = append(s.List, all...) }
}

// usual is a store of three words in two banks, two of which were written in the interval 1, one in 3, and all in 4, where it is.
func usual() api.Vault {
	return api.Vault{Banks: laid([]uint32{40, 41, 42}, 2), Words: 3, Span: 4, List: []api.Undo{
		of(1, 2, 12), of(1, 0, 10), of(3, 0, 30), of(4, 1, 31), of(4, 0, 32), of(4, 2, 33),
	}}
}

// deed is a call: which, and with what; at is the bank of Lose, and the interval of Back and Trim.
type deed struct {
	call string
	at   int
	w    uint32
}

// done is what became of it.
type done struct {
	s   api.Vault
	w   uint32
	err api.Errno
}

// does is what the program makes of d.
func (d deed) does(s api.Vault) done {
	var got done
	switch d.call {
	case "Read":
		got.w, got.err = store.Read(s, d.at)
	case "Write":
		got.s, got.err = store.Write(s, d.at, d.w)
	case "Next":
		got.s, got.err = store.Next(s)
	case "Back":
		got.s, got.err = store.Back(s, d.at)
	case "Trim":
		got.s, got.err = store.Trim(s, d.at)
	case "Lose":
		got.s, got.err = store.Lose(s, d.at)
	case "Rebuild":
		got.s, got.err = store.Rebuild(s)
	}
	return got
}

// rightBanks answers whether the document takes b for right.
func rightBanks(b api.Banks) bool {
	if len(b.Rows) < 1 || len(b.Rows) > 8 || len(b.Par) < 1 || len(b.Par) > 64 || b.Lost < 0 || b.Lost > len(b.Rows) {
		return false
	}
	for _, row := range b.Rows {
		if len(row) != len(b.Par) {
			return false
		}
	}
	if b.Lost > 0 {
		return slices.Equal(b.Rows[b.Lost-1], make([]uint32, len(b.Par)))
	}
	all := copiedBanks(b)
	together(&all)
	return slices.Equal(all.Par, b.Par)
}

// right answers whether the document takes s for right.
func right(s api.Vault) bool {
	if !rightBanks(s.Banks) || s.Words < 1 || s.Words > 64 || s.Span < 0 || s.Span > end || len(s.List) > 256 {
		return false
	}
	places := len(s.Banks.Par) * len(s.Banks.Rows)
	if places < s.Words || places-len(s.Banks.Rows) >= s.Words {
		return false
	}
	for n, u := range s.List {
		if u.Span < 0 || u.Span > s.Span || u.At < 0 || u.At >= s.Words || n > 0 && u.Span < s.List[n-1].Span {
			return false
		}
		for _, v := range s.List[:n] {
			if v.Span == u.Span && v.At == u.At {
				return false
			}
		}
	}
	return true
}

// asks is what the document asks of d, told without the program.
func (d deed) asks(s api.Vault) done {
	if err := d.mayNot(s); err != api.OK {
		if d.call == "Read" {
			return done{err: err}
		}
		return done{s: copied(s), err: err}
	}
	now := copied(s)
	switch d.call {
	case "Read":
		return done{w: memory(s)[d.at]}
	case "Write":
		if !there(s, d.at) {
			now.List = append(now.List, of(s.Span, d.at, memory(s)[d.at]))
		}
		puts(d.at, d.w)(&now)
	case "Next":
		now.Span = s.Span + 1
	case "Back":
		now.Span, now.List = d.at, nil
		for n := len(s.List) - 1; n >= 0; n-- {
			if u := s.List[n]; u.Span >= d.at {
				puts(u.At, u.Val)(&now)
			} else {
				now.List = slices.Insert(now.List, 0, u)
			}
		}
	case "Trim":
		now.List = nil
		for _, u := range s.List {
			if u.Span >= d.at {
				now.List = append(now.List, u)
			}
		}
	case "Lose":
		loses(d.at)(&now)
	case "Rebuild":
		lost := now.Banks.Rows[s.Banks.Lost-1]
		copy(lost, s.Banks.Par)
		for n, row := range s.Banks.Rows {
			for at, w := range row {
				if n+1 != s.Banks.Lost {
					lost[at] ^= w
				}
			}
		}
		now.Banks.Lost = 0
	}
	return done{s: now}
}

// there answers whether the word at was written in the present interval already.
func there(s api.Vault, at int) bool {
	return slices.ContainsFunc(s.List, func(u api.Undo) bool { return u.Span == s.Span && u.At == at })
}

// mayNot is the error that d tells of the store s.
func (d deed) mayNot(s api.Vault) api.Errno {
	if !right(s) {
		return api.ErrArg
	}
	lost, most := s.Banks.Lost, math.MaxInt
	switch d.call {
	case "Read", "Write":
		most = s.Words - 1
	case "Back", "Trim":
		most = s.Span
	case "Lose":
		most = len(s.Banks.Rows) - 1
	}
	switch {
	case d.call == "Next" && s.Span == end, d.at < 0, d.at > most:
		return api.ErrArg
	case d.call == "Read" && d.at%len(s.Banks.Rows) == lost-1, d.call == "Rebuild" && lost == 0:
		return api.ErrState
	case lost > 0 && slices.Contains([]string{"Write", "Back", "Lose"}, d.call):
		return api.ErrState
	case d.call == "Write" && len(s.List) == 256 && !there(s, d.at):
		return api.ErrFull
	}
	return api.OK
}

// same answers whether a and b are.
func (a done) same(b done) bool {
	return alike(a.s, b.s) && a.w == b.w && a.err == b.err
}

// becomes holds the program to making want of d.
func becomes(t *testing.T, what string, s api.Vault, d deed, want done) {
	t.Helper()
	if got := d.does(s); !got.same(want) {
		t.Errorf("%s: %+v of %v\n= %+v\nwant %+v", what, d, s, got, want)
	}
}

// stays holds the program to leaving the store as it is (and telling no word), with that error.
func stays(t *testing.T, what string, s api.Vault, d deed, err api.Errno) {
	t.Helper()
	if d.call == "Read" {
		becomes(t, what, s, d, done{err: err})
		return
	}
	becomes(t, what, s, d, done{s: s, err: err})
}

// sizes are words and banks: as many words as the banks have places, one fewer and one more, more banks than words, and the most there may be.
var sizes = [][2]int{{1, 1}, {1, 2}, {1, 8}, {2, 2}, {3, 2}, {4, 2}, {5, 2}, {7, 8}, {8, 8}, {9, 8}, {15, 4}, {63, 1}, {64, 1}, {63, 3}, {64, 3}, {63, 8}, {64, 8}, {57, 8}, {64, 7}}

// rights are stores that may be.
func rights() map[string]api.Vault {
	all := map[string]api.Vault{
		"the document's example":              plain(4, 2, 0),
		"usual":                               usual(),
		"an empty list":                       turned(usual(), func(s *api.Vault) { s.List = []api.Undo{} }),
		"in the last interval":                plain(2, 2, end),
		"one ahead of the last interval":      plain(2, 1, end-1),
		"one kept, of the last interval":      turned(plain(2, 2, end), keeps(of(end, 1, top))),
		"one kept, of the interval 0":         turned(plain(2, 2, end), keeps(of(0, 1, top))),
		"one word, 255 intervals":             listed(1, 1, 255, 255),
		"one word, 256 intervals":             listed(1, 3, 256, 256),
		"one word, the last 256 intervals":    listed(1, 1, end, 256),
		"two words, 256 kept":                 listed(2, 2, 128, 256),
		"64 words, 255 kept":                  listed(64, 8, 4, 255),
		"64 words, 256 kept":                  listed(64, 8, 4, 256),
		"64 words, 256 kept, one bank":        listed(64, 1, 4, 256),
		"64 words, 256 kept, far on":          listed(64, 7, 1<<33, 256),
		"64 words, 256 kept, some of it":      turned(listed(64, 5, 4, 253), keeps(of(4, 63, 0), of(4, 0, 0), of(4, 7, 0))),
		"intervals that are 2^32 apart":       turned(plain(1, 1, 1<<33), keeps(of(0, 0, 0), of(1<<32, 0, 0), of(1<<33, 0, 0))),
		"an interval that's another one's At": turned(plain(2, 1, 1), keeps(of(0, 1, 0), of(1, 0, 0))),
		"falling At":                          turned(plain(3, 2, 0), keeps(of(0, 2, 0), of(0, 1, 0), of(0, 0, 0))),
		"a place that no word has isn't 0":    turned(plain(3, 2, 2), keeps(of(1, 2, 8), of(2, 0, 3)), puts(3, 77)),
		"places that no words have aren't 0":  turned(plain(1, 8, 2), keeps(of(1, 0, 8)), puts(1, 77), puts(7, top)),
		"a lost bank, and whatever Par":       turned(usual(), loses(1), func(s *api.Vault) { s.Banks.Par = []uint32{top, 0x01020304} }),
	}
	for _, size := range sizes {
		all[fmt.Sprint(size[0], " words, ", size[1], " banks")] = plain(size[0], size[1], 1)
	}
	for _, about := range slices.Sorted(maps.Keys(all)) {
		s := all[about]
		for bank := range s.Banks.Rows {
			if s.Banks.Lost == 0 && (bank < 2 || bank == len(s.Banks.Rows)-1) {
				all[about+", bank "+name(bank)+" lost"] = turned(s, loses(bank))
			}
		}
	}
	return all
}

// name is n as a name has it.
func name(n int) string {
	return fmt.Sprint(n)
}

// wrongs are stores that may not be.
func wrongs() map[string]api.Vault {
	all := map[string]api.Vault{
		"nothing":                        {},
		"no banks":                       {Words: 1},
		"no rows, empty lists":           {Banks: api.Banks{Rows: [][]uint32{}, Par: []uint32{}}, Words: 1, List: []api.Undo{}},
		"no rows, but Par":               {Banks: api.Banks{Par: []uint32{0}}, Words: 1},
		"banks without words":            {Banks: blank(2, 0), Words: 1},
		"9 banks":                        plain(9, 9, 0),
		"9 banks of 64 words":            {Banks: blank(9, 8), Words: 64},
		"65 words in one bank":           plain(65, 1, 0),
		"65 words in two banks":          plain(65, 2, 0),
		"65 words in 8 banks":            plain(65, 8, 3),
		"72 words in 8 banks":            plain(72, 8, 3),
		"512 words in 8 banks":           plain(512, 8, 3),
		"a bank of 65 words":             {Banks: blank(1, 65), Words: 64},
		"257 kept":                       listed(64, 8, 5, 257),
		"257 kept of one word":           listed(1, 2, 257, 257),
		"257 kept, a bank lost":          turned(listed(64, 8, 5, 257), loses(3)),
		"257 kept, one of it":            turned(listed(64, 8, 4, 256), keeps(of(4, 5, 0))),
		"256 + 256 kept":                 listed(64, 4, 8, 512),
		"256 kept, one of them -1":       listed(1, 1, 255, 256),
		"two that changed places":        turned(usual(), func(s *api.Vault) { s.List[1], s.List[2] = s.List[2], s.List[1] }),
		"all the other way round":        turned(usual(), func(s *api.Vault) { slices.Reverse(s.List) }),
		"less than the one's ahead":      turned(usual(), func(s *api.Vault) { s.List[2].Span = 0 }),
		"less at the end":                turned(usual(), func(s *api.Vault) { s.List[5].Span = 2 }),
		"one more than the one's behind": turned(usual(), func(s *api.Vault) { s.List[0].Span = 2 }),
	}
	for _, n := range append([]int{-1, end + 1}, far...) {
		if n < 0 || n > end {
			all["Span "+name(n)] = plain(2, 2, n)
			all["Span "+name(n)+", some kept"] = turned(usual(), func(s *api.Vault) { s.Span = n })
		}
		if n < 1 || n > 64 {
			all["Words "+name(n)] = turned(usual(), func(s *api.Vault) { s.Words, s.List = n, nil })
		}
	}
	for about, s := range rights() {
		maps.Copy(all, wrongBanks(about, s))
		maps.Copy(all, wrongSizes(about, s))
		for n := range s.List {
			if n > 5 && n < len(s.List)-2 {
				continue
			}
			for how, by := range wrongOnes() {
				all[about+": "+how+" at the place "+name(n)] = turned(s, func(s *api.Vault) { by(s, &s.List[n]) })
			}
		}
		if len(s.List) > 0 && len(s.List) < 256 {
			maps.Copy(all, wrongTwos(about, s))
		}
	}
	return all
}

// wrongBanks are like the right store s, but for its banks, which aren't right.
func wrongBanks(about string, s api.Vault) map[string]api.Vault {
	last := len(s.Banks.Par) - 1
	all := map[string]api.Vault{}
	for how, by := range map[string]func(b *api.Banks){
		"Par too short":         func(b *api.Banks) { b.Par = b.Par[:last] },
		"Par too long":          func(b *api.Banks) { b.Par = append(b.Par, 0) },
		"a row too short":       func(b *api.Banks) { b.Rows[0] = b.Rows[0][:last] },
		"a row too long":        func(b *api.Banks) { b.Rows[len(b.Rows)-1] = append(b.Rows[len(b.Rows)-1], 0) },
		"a row that is none":    func(b *api.Banks) { b.Rows[len(b.Rows)-1] = nil },
		"Lost below 0":          func(b *api.Banks) { b.Lost = -1 },
		"Lost above all":        func(b *api.Banks) { b.Lost = len(b.Rows) + 1 },
		"Lost far above":        func(b *api.Banks) { b.Lost += 1 << 32 },
		"no rows":               func(b *api.Banks) { b.Rows = nil },
		"nothing":               func(b *api.Banks) { *b = api.Banks{} },
		"Par of another bit":    func(b *api.Banks) { b.Par[last] ^= 1 << 31 },
		"a row of another bit":  func(b *api.Banks) { b.Rows[0][0] ^= 1 },
		"the lost row isn't 0":  func(b *api.Banks) { b.Rows[max(0, b.Lost-1)][last] ^= 6 },
		"another bank is lost":  func(b *api.Banks) { b.Lost = (b.Lost+1)%(len(b.Rows)) + 1 },
		"none is lost, but was": func(b *api.Banks) { b.Lost = 0 },
	} {
		one := turned(s, func(s *api.Vault) { by(&s.Banks) })
		if !rightBanks(one.Banks) {
			all[about+": "+how] = one
		}
	}
	return all
}

// wrongSizes are like the right store s, but for its banks, that have too few words, or more than are needed, or for its words, which are too many or too few for them.
func wrongSizes(about string, s api.Vault) map[string]api.Vault {
	all := map[string]api.Vault{
		about + ": a word more of each bank": turned(s, func(s *api.Vault) {
			for n, row := range s.Banks.Rows {
				s.Banks.Rows[n] = append(row, 0)
			}
			s.Banks.Par = append(s.Banks.Par, 0)
		}),
	}
	banks, words := len(s.Banks.Rows), len(s.Banks.Par)
	if words > 1 {
		all[about+": a word fewer of each bank"] = turned(s, func(s *api.Vault) {
			for n, row := range s.Banks.Rows {
				s.Banks.Rows[n] = row[:words-1]
			}
			s.Banks.Par = s.Banks.Par[:words-1]
		})
		all[about+": fewer words than the banks are for"] = turned(s, func(s *api.Vault) { s.Words, s.List = banks*(words-1), nil })
	}
	if banks*words < 64 {
		all[about+": more words than places"] = turned(s, func(s *api.Vault) { s.Words = banks*words + 1 })
	}
	return all
}

// wrongOnes make one of a right store's list a wrong one.
func wrongOnes() map[string]func(s *api.Vault, u *api.Undo) {
	return map[string]func(s *api.Vault, u *api.Undo){
		"Span one more than the store's": func(s *api.Vault, u *api.Undo) { u.Span = s.Span + 1 },
		"Span far below":                 func(s *api.Vault, u *api.Undo) { u.Span = math.MinInt },
		"Span far above":                 func(s *api.Vault, u *api.Undo) { u.Span = math.MaxInt },
		"Span -1":                        func(s *api.Vault, u *api.Undo) { u.Span = -1 },
		"At -1":                          func(s *api.Vault, u *api.Undo) { u.At = -1 },
		"At one behind the last":         func(s *api.Vault, u *api.Undo) { u.At = s.Words },
		"At 64":                          func(s *api.Vault, u *api.Undo) { u.At = 64 },
		"At with bits above":             func(s *api.Vault, u *api.Undo) { u.At += 1 << 32 },
		"At with a byte above":           func(s *api.Vault, u *api.Undo) { u.At += 256 },
		"At far below":                   func(s *api.Vault, u *api.Undo) { u.At = math.MinInt },
		"At far above":                   func(s *api.Vault, u *api.Undo) { u.At = math.MaxInt },
	}
}

// wrongTwos are like s, but one of its list stands twice with one Span: next to it, and behind all of that Span; with another Val and with its own.
func wrongTwos(about string, s api.Vault) map[string]api.Vault {
	all := map[string]api.Vault{}
	for n, u := range s.List {
		if n > 3 && n < len(s.List)-2 && n%50 > 0 {
			continue
		}
		last := n
		for last+1 < len(s.List) && s.List[last+1].Span == u.Span {
			last++
		}
		for _, val := range []uint32{u.Val, u.Val + 1} {
			for _, at := range []int{n + 1, last + 1} {
				all[about+": that of the place "+name(n)+" at "+name(at)+", too, with "+name(int(val))] = turned(s, func(s *api.Vault) {
					s.List = slices.Insert(s.List, at, of(u.Span, u.At, val))
				})
			}
		}
	}
	return all
}

// numbers are such as words, banks and intervals may have in s, and edges; the most that there are, one more, and such as aren't there.
func numbers(s api.Vault) []int {
	banks := len(s.Banks.Rows)
	all := append([]int{-1, 0, 1, 2, s.Words - 1, s.Words, banks - 1, banks, banks*len(s.Banks.Par) - 1, 7, 8, 63, 64, 65, s.Span - 1, s.Span, end - 1, end, end + 1}, far...)
	if s.Span < math.MaxInt {
		all = append(all, s.Span+1)
	}
	for n, u := range s.List {
		if n < 4 || n > len(s.List)-4 {
			all = append(all, u.Span, u.At)
		}
	}
	slices.Sort(all)
	return slices.Compact(all)
}

// deeds are each call that takes a store and tells an error, with all numbers there are for it.
func deeds(s api.Vault) []deed {
	all := []deed{{call: "Next"}, {call: "Rebuild"}}
	for _, n := range numbers(s) {
		all = append(all, deed{call: "Read", at: n}, deed{"Write", n, 0xfedcba98}, deed{call: "Write", at: n}, deed{call: "Back", at: n}, deed{call: "Trim", at: n}, deed{call: "Lose", at: n})
	}
	return all
}

// P14.1: Right, of stores that may be and of such as may not, in each way that the chapter names.
func TestRight(t *testing.T) {
	for about, s := range rights() {
		if !right(s) || !store.Right(s) {
			t.Errorf("%s: not right: %v", about, s)
		}
	}
	for about, s := range wrongs() {
		if right(s) || store.Right(s) {
			t.Errorf("%s: right: %v", about, s)
		}
	}
}

// P14.1: Right, of all numbers of words, banks and words of a bank there are, and of some beyond.
func TestRightSizes(t *testing.T) {
	for words := -1; words <= 70; words++ {
		for banks := range 11 {
			for each := range 67 {
				s := api.Vault{Banks: blank(banks, each), Words: words}
				want := 1 <= words && words <= 64 && 1 <= banks && banks <= 8 && words <= banks*each && banks*(each-1) < words
				if got := store.Right(s); got != want {
					t.Errorf("%d words in %d banks of %d: Right is %t", words, banks, each, got)
				}
			}
		}
	}
}

// P14.1: Right, of each interval of the store, and each interval and word of the only one in its list.
func TestRightEdges(t *testing.T) {
	for _, span := range append([]int{-1, 0, 1, end - 1, end, end + 1}, far...) {
		if got := store.Right(plain(3, 2, span)); got != (0 <= span && span <= end) {
			t.Errorf("in the interval %d: Right is %t", span, got)
		}
		for _, then := range append([]int{-1, 0, 1, span / 2, end - 1, end, end + 1}, far...) {
			for at := -1; at <= 4; at++ {
				s := turned(plain(3, 2, span), keeps(of(then, at, 0)))
				want := 0 <= span && span <= end && 0 <= then && then <= span && 0 <= at && at < 3
				if got := store.Right(s); got != want {
					t.Errorf("in the interval %d, the word %d of the interval %d is kept: Right is %t", span, at, then, got)
				}
			}
		}
	}
	for many := range 300 {
		if got := store.Right(listed(64, 8, 6, many)); got != (many <= 256) {
			t.Errorf("%d in List: Right is %t", many, got)
		}
	}
}

// P14.1: Right, of all lists of up to three of two words and three intervals, near edges.
func TestRightAllLists(t *testing.T) {
	var ones []api.Undo
	for span := -1; span <= 3; span++ {
		for at := -1; at <= 2; at++ {
			ones = append(ones, of(span, at, 7))
		}
	}
	for bank := range 3 {
		s := plain(2, 2, 2)
		if bank < 2 {
			s = turned(s, loses(bank))
		}
		for _, a := range ones {
			for _, b := range ones {
				for _, c := range ones {
					for many := range 4 {
						s.List = []api.Undo{a, b, c}[:many]
						if got := store.Right(s); got != right(s) {
							t.Errorf("%v: Right is %t", s, got)
						}
					}
				}
			}
		}
	}
}

// P14.1: New, of all numbers of words and banks there may be: all 0, in the interval 0, nothing lost, just as many words in each bank as are needed; of others: none, and ErrArg.
func TestNew(t *testing.T) {
	for words := 1; words <= 64; words++ {
		for banks := 1; banks <= 8; banks++ {
			s, err := store.New(words, banks)
			want := api.Vault{Banks: laid(make([]uint32, words), banks), Words: words}
			if err != api.OK || !alike(s, want) || !store.Right(s) || !slices.Equal(store.Words(s), make([]uint32, words)) {
				t.Errorf("New(%d, %d) = %v, %d", words, banks, s, err)
			}
		}
	}
	edges := append([]int{-8, -1, 0, 1, 2, 7, 8, 9, 16, 63, 64, 65, 66, 72, 128, 512, 513, end}, far...)
	for _, words := range edges {
		for _, banks := range edges {
			if 1 <= words && words <= 64 && 1 <= banks && banks <= 8 {
				continue
			}
			if s, err := store.New(words, banks); err != api.ErrArg || !alike(s, api.Vault{}) {
				t.Errorf("New(%d, %d) = %v, %d", words, banks, s, err)
			}
		}
	}
}

// P14.1: the document's example: words 1 and 3 of 4 are in bank 1 of 2.
func TestExample(t *testing.T) {
	s, err := store.New(4, 2)
	for at := range 4 {
		if err == api.OK {
			s, err = store.Write(s, at, uint32(10+at))
		}
	}
	want := api.Banks{Rows: [][]uint32{{10, 12}, {11, 13}}, Par: []uint32{10 ^ 11, 12 ^ 13}}
	if err != api.OK || !alikeBanks(s.Banks, want) {
		t.Fatalf("written: %v, %d", s, err)
	}
	s, err = store.Lose(s, 1)
	if err != api.OK || !slices.Equal(store.Words(s), []uint32{10, 0, 12, 0}) {
		t.Fatalf("bank 1 lost: %v, %d: %v", s, err, store.Words(s))
	}
	for at, want := range []done{{w: 10}, {err: api.ErrState}, {w: 12}, {err: api.ErrState}} {
		becomes(t, "bank 1 lost", s, deed{call: "Read", at: at}, want)
	}
}

// P14.1: each word of each size lies where the chapter says, and nowhere else: written, read, listed in Words, and lost with its bank alone.
func TestWhereWordsLie(t *testing.T) {
	for words := 1; words <= 64; words++ {
		for banks := 1; banks <= 8; banks++ {
			at := (words * banks * 7) % words
			for _, at := range []int{0, at, words - 1} {
				empty, _ := store.New(words, banks)
				s, err := store.Write(empty, at, 0x80000001)
				mem := make([]uint32, words)
				mem[at] = 0x80000001
				want := api.Vault{Banks: laid(mem, banks), Words: words, List: []api.Undo{of(0, at, 0)}}
				if err != api.OK || !alike(s, want) || !slices.Equal(store.Words(s), mem) {
					t.Fatalf("%d words, %d banks: the word %d is written: %v, %d", words, banks, at, s, err)
				}
				for n := range words {
					becomes(t, "written", s, deed{call: "Read", at: n}, done{w: mem[n]})
				}
				for bank := range banks {
					lost, err := store.Lose(s, bank)
					if is := slices.Equal(store.Words(lost), mem); err != api.OK || is != (bank != at%banks) {
						t.Fatalf("%d words, %d banks: the word %d is written, the bank %d lost: %v, %d", words, banks, at, bank, lost, err)
					}
				}
			}
		}
	}
}

// P14.1: Read, and Words, of stores that may be and of such as may not.
func TestReadAndWords(t *testing.T) {
	for about, s := range rights() {
		mem := memory(s)
		if got := store.Words(s); !slices.Equal(got, mem) {
			t.Errorf("%s: Words(%v) = %v", about, s, got)
		}
		for at, w := range mem {
			if s.Banks.Lost == at%len(s.Banks.Rows)+1 {
				stays(t, about, s, deed{call: "Read", at: at}, api.ErrState)
			} else {
				becomes(t, about, s, deed{call: "Read", at: at}, done{w: w})
			}
		}
	}
	for about, s := range wrongs() {
		if got := store.Words(s); len(got) > 0 {
			t.Errorf("%s: Words(%v) = %v", about, s, got)
		}
	}
}

// step is a deed and what is in the store behind it.
type step struct {
	d    deed
	span int
	mem  []uint32
	list []api.Undo
}

// plays holds the program to each step, one behind another, from s on, nothing of which is lost.
func plays(t *testing.T, what string, s api.Vault, steps []step) {
	t.Helper()
	for n, one := range steps {
		got := one.d.does(s)
		want := done{s: api.Vault{Banks: laid(one.mem, len(s.Banks.Rows)), Words: s.Words, Span: one.span, List: one.list}}
		if !got.same(want) {
			t.Fatalf("%s, step %d: %+v\n= %+v\nwant %+v", what, n, one.d, got, want)
		}
		s = got.s
	}
}

// P14.1: words written once and more than once, in one interval and in several, as they are, too; Next where nothing was written.
func TestWrite(t *testing.T) {
	for banks := 1; banks <= 4; banks++ {
		three := api.Vault{Banks: laid([]uint32{1, 2, 3}, banks), Words: 3}
		plays(t, "by hand", three, []step{
			{deed{"Write", 1, 20}, 0, []uint32{1, 20, 3}, []api.Undo{of(0, 1, 2)}},
			{deed{"Write", 1, 21}, 0, []uint32{1, 21, 3}, []api.Undo{of(0, 1, 2)}},
			{deed{"Write", 2, 3}, 0, []uint32{1, 21, 3}, []api.Undo{of(0, 1, 2), of(0, 2, 3)}},
			{deed{"Write", 0, top}, 0, []uint32{top, 21, 3}, []api.Undo{of(0, 1, 2), of(0, 2, 3), of(0, 0, 1)}},
			{deed{"Write", 1, 2}, 0, []uint32{top, 2, 3}, []api.Undo{of(0, 1, 2), of(0, 2, 3), of(0, 0, 1)}},
			{deed{"Next", 0, 0}, 1, []uint32{top, 2, 3}, []api.Undo{of(0, 1, 2), of(0, 2, 3), of(0, 0, 1)}},
			{deed{"Next", 0, 0}, 2, []uint32{top, 2, 3}, []api.Undo{of(0, 1, 2), of(0, 2, 3), of(0, 0, 1)}},
			{deed{"Write", 0, 0}, 2, []uint32{0, 2, 3}, []api.Undo{of(0, 1, 2), of(0, 2, 3), of(0, 0, 1), of(2, 0, top)}},
			{deed{"Write", 0, 7}, 2, []uint32{7, 2, 3}, []api.Undo{of(0, 1, 2), of(0, 2, 3), of(0, 0, 1), of(2, 0, top)}},
			{deed{"Write", 1, 2}, 2, []uint32{7, 2, 3}, []api.Undo{of(0, 1, 2), of(0, 2, 3), of(0, 0, 1), of(2, 0, top), of(2, 1, 2)}},
			{deed{"Next", 0, 0}, 3, []uint32{7, 2, 3}, []api.Undo{of(0, 1, 2), of(0, 2, 3), of(0, 0, 1), of(2, 0, top), of(2, 1, 2)}},
			{deed{"Write", 0, 8}, 3, []uint32{8, 2, 3}, []api.Undo{of(0, 1, 2), of(0, 2, 3), of(0, 0, 1), of(2, 0, top), of(2, 1, 2), of(3, 0, 7)}},
		})
	}
}

// P14.1: Write, of each word of each size, from a store where it wasn't written in the present interval, and again.
func TestWriteEachWord(t *testing.T) {
	for _, size := range sizes {
		for _, span := range []int{0, 1, 5, 1 << 32, end} {
			for at := range size[0] {
				s := plain(size[0], size[1], span)
				for n, w := range []uint32{9, 0, top, word(span, at)} {
					want := turned(plain(size[0], size[1], span), keeps(of(span, at, word(span, at))), puts(at, w))
					becomes(t, "write number "+name(n), s, deed{"Write", at, w}, done{s: want})
					s = want
				}
			}
		}
	}
}

// P14.1: Write, where List has 255, 256 of other intervals, and 256 of which some are of the present one.
func TestWriteFull(t *testing.T) {
	short := listed(64, 8, 4, 255)
	want := turned(short, keeps(of(4, 9, word(4, 9))), puts(9, 77))
	becomes(t, "the last that may be put", short, deed{"Write", 9, 77}, done{s: want})
	stays(t, "one more", want, deed{"Write", 10, 78}, api.ErrFull)
	stays(t, "one more, as it is", want, deed{"Write", 10, word(4, 10)}, api.ErrFull)
	becomes(t, "the same word again", want, deed{"Write", 9, 79}, done{s: turned(want, puts(9, 79))})
	next := turned(want, func(s *api.Vault) { s.Span = 5 })
	stays(t, "the same word in the next interval", next, deed{"Write", 9, 80}, api.ErrFull)
	some := rights()["64 words, 256 kept, some of it"]
	for at := range 64 {
		stays(t, "256 of other intervals", listed(64, 8, 4, 256), deed{"Write", at, 5}, api.ErrFull)
		if at == 63 || at == 0 || at == 7 {
			becomes(t, "there already", some, deed{"Write", at, 6}, done{s: turned(some, puts(at, 6))})
		} else {
			stays(t, "not there yet", some, deed{"Write", at, 6}, api.ErrFull)
		}
	}
}

// P14.1: a new store written to the full, interval by interval: then nothing more is put, but what is there already is written; gone back, or trimmed, there is room again.
func TestWriteToTheFull(t *testing.T) {
	s, err := store.New(64, 8)
	for n := range 256 {
		if n > 0 && n%64 == 0 {
			s, _ = store.Next(s)
		}
		s, err = store.Write(s, n%64, uint32(n))
		if err != api.OK || len(s.List) != n+1 || !store.Right(s) {
			t.Fatalf("%d are put: %v, %d", n+1, s, err)
		}
	}
	for at := range 64 {
		becomes(t, "full", s, deed{"Write", at, 1}, done{s: turned(s, puts(at, 1))})
	}
	next, _ := store.Next(s)
	stays(t, "full, the next interval", next, deed{"Write", 0, 1}, api.ErrFull)
	becomes(t, "full, gone back", next, deed{call: "Back"}, done{s: plainNew(64, 8)})
	trimmed, err := store.Trim(next, 1)
	if err != api.OK || len(trimmed.List) != 192 {
		t.Fatalf("full, trimmed: %v, %d", trimmed, err)
	}
	becomes(t, "full, trimmed", trimmed, deed{"Write", 0, 1}, done{s: turned(trimmed, keeps(of(4, 0, 192)), puts(0, 1))})
}

// plainNew is a new store.
func plainNew(words, banks int) api.Vault {
	return api.Vault{Banks: laid(make([]uint32, words), banks), Words: words}
}

// P14.1: Next, near the last interval, and while a bank is lost; all else stays.
func TestNext(t *testing.T) {
	for _, span := range []int{0, 1, 2, 63, 255, 256, math.MaxInt32, math.MaxUint32, end - 2, end - 1} {
		s := turned(plain(2, 2, span), keeps(of(span, 1, 8)))
		becomes(t, "next", s, deed{call: "Next"}, done{s: turned(s, func(s *api.Vault) { s.Span++ })})
		lost := turned(s, loses(1))
		becomes(t, "next, a bank lost", lost, deed{call: "Next"}, done{s: turned(lost, func(s *api.Vault) { s.Span++ })})
	}
	stays(t, "the last one", plain(2, 2, end), deed{call: "Next"}, api.ErrArg)
	stays(t, "the last one, a bank lost", turned(plain(2, 2, end), loses(0)), deed{call: "Next"}, api.ErrArg)
	s, err := store.Next(plain(2, 2, end-1))
	if err != api.OK || s.Span != end || !store.Right(s) {
		t.Errorf("one ahead of the last one: %v, %d", s, err)
	}
}

// P14.1: Back, to each interval there is, by hand.
func TestBack(t *testing.T) {
	for to, want := range []struct {
		mem  []uint32
		list []api.Undo
	}{
		{[]uint32{10, 31, 12}, nil},
		{[]uint32{10, 31, 12}, nil},
		{[]uint32{30, 31, 33}, usual().List[:2]},
		{[]uint32{30, 31, 33}, usual().List[:2]},
		{[]uint32{32, 31, 33}, usual().List[:3]},
	} {
		becomes(t, "by hand", usual(), deed{call: "Back", at: to}, done{s: api.Vault{Banks: laid(want.mem, 2), Words: 3, Span: to, List: want.list}})
	}
	unlike := api.Vault{Banks: laid([]uint32{3, 4}, 3), Words: 2, Span: 6, List: []api.Undo{of(0, 0, 1), of(2, 0, 9), of(5, 0, 7)}}
	becomes(t, "what was ahead of one isn't what it was ahead of the next", unlike, deed{call: "Back"}, done{s: api.Vault{Banks: laid([]uint32{1, 4}, 3), Words: 2}})
	becomes(t, "an interval in which nothing was written", unlike, deed{call: "Back", at: 3}, done{s: api.Vault{Banks: laid([]uint32{7, 4}, 3), Words: 2, Span: 3, List: unlike.List[:2]}})
	becomes(t, "the present one, in which nothing was written", unlike, deed{call: "Back", at: 6}, done{s: unlike})
}

// P14.1: Trim, to each interval there is, by hand, while a bank is lost, too: the words and the interval stay.
func TestTrim(t *testing.T) {
	for below, first := range []int{0, 0, 2, 2, 3} {
		for _, s := range []api.Vault{usual(), turned(usual(), loses(0)), turned(usual(), loses(1))} {
			becomes(t, "by hand", s, deed{call: "Trim", at: below}, done{s: turned(s, func(s *api.Vault) { s.List = s.List[first:] })})
		}
	}
	next := turned(usual(), func(s *api.Vault) { s.Span = 5 })
	becomes(t, "all", next, deed{call: "Trim", at: 5}, done{s: turned(next, func(s *api.Vault) { s.List = nil })})
	becomes(t, "nothing is kept", plain(3, 2, 9), deed{call: "Trim", at: 9}, done{s: plain(3, 2, 9)})
}

// P14.1: going back and going on behind it; trimming, and going back behind that.
func TestBackAndOn(t *testing.T) {
	plays(t, "on behind", api.Vault{Banks: laid([]uint32{1, 2}, 2), Words: 2}, []step{
		{deed{"Write", 0, 5}, 0, []uint32{5, 2}, []api.Undo{of(0, 0, 1)}},
		{deed{"Next", 0, 0}, 1, []uint32{5, 2}, []api.Undo{of(0, 0, 1)}},
		{deed{"Write", 0, 6}, 1, []uint32{6, 2}, []api.Undo{of(0, 0, 1), of(1, 0, 5)}},
		{deed{"Back", 1, 0}, 1, []uint32{5, 2}, []api.Undo{of(0, 0, 1)}},
		{deed{"Write", 0, 7}, 1, []uint32{7, 2}, []api.Undo{of(0, 0, 1), of(1, 0, 5)}},
		{deed{"Write", 1, 8}, 1, []uint32{7, 8}, []api.Undo{of(0, 0, 1), of(1, 0, 5), of(1, 1, 2)}},
		{deed{"Next", 0, 0}, 2, []uint32{7, 8}, []api.Undo{of(0, 0, 1), of(1, 0, 5), of(1, 1, 2)}},
		{deed{"Write", 1, 9}, 2, []uint32{7, 9}, []api.Undo{of(0, 0, 1), of(1, 0, 5), of(1, 1, 2), of(2, 1, 8)}},
		{deed{"Back", 0, 0}, 0, []uint32{1, 2}, nil},
		{deed{"Write", 1, 4}, 0, []uint32{1, 4}, []api.Undo{of(0, 1, 2)}},
		{deed{"Back", 0, 0}, 0, []uint32{1, 2}, nil},
		{deed{"Back", 0, 0}, 0, []uint32{1, 2}, nil},
	})
	plays(t, "trimmed", usual(), []step{
		{deed{"Trim", 3, 0}, 4, []uint32{40, 41, 42}, usual().List[2:]},
		{deed{"Trim", 0, 0}, 4, []uint32{40, 41, 42}, usual().List[2:]},
		{deed{"Write", 0, 50}, 4, []uint32{50, 41, 42}, usual().List[2:]},
		{deed{"Back", 4, 0}, 4, []uint32{32, 31, 33}, usual().List[2:3]},
		{deed{"Write", 2, 51}, 4, []uint32{32, 31, 51}, []api.Undo{of(3, 0, 30), of(4, 2, 33)}},
		{deed{"Back", 3, 0}, 3, []uint32{30, 31, 33}, nil},
		{deed{"Back", 0, 0}, 0, []uint32{30, 31, 33}, nil},
		{deed{"Write", 0, 2}, 0, []uint32{2, 31, 33}, []api.Undo{of(0, 0, 30)}},
		{deed{"Next", 0, 0}, 1, []uint32{2, 31, 33}, []api.Undo{of(0, 0, 30)}},
		{deed{"Trim", 1, 0}, 1, []uint32{2, 31, 33}, nil},
		{deed{"Back", 0, 0}, 0, []uint32{2, 31, 33}, nil},
	})
}

// P14.1: Lose of each bank, one behind another, Rebuild between; what may be done while it is lost, and what not.
func TestLoseAndRebuild(t *testing.T) {
	for about, s := range rights() {
		if s.Banks.Lost > 0 {
			stays(t, about, s, deed{call: "Lose", at: s.Banks.Lost - 1}, api.ErrState)
			continue
		}
		stays(t, about, s, deed{call: "Rebuild"}, api.ErrState)
		for bank := range s.Banks.Rows {
			lost := turned(s, loses(bank))
			becomes(t, about, s, deed{call: "Lose", at: bank}, done{s: lost})
			becomes(t, about, lost, deed{call: "Rebuild"}, done{s: s})
			for other := range s.Banks.Rows {
				stays(t, about, lost, deed{call: "Lose", at: other}, api.ErrState)
			}
			for at := range s.Words {
				stays(t, about, lost, deed{"Write", at, 5}, api.ErrState)
			}
			for _, to := range []int{0, s.Span / 2, s.Span} {
				stays(t, about, lost, deed{call: "Back", at: to}, api.ErrState)
			}
		}
	}
}

// P14.1: Rebuild makes the lost bank of whatever Par is, the places that no words have, too.
func TestRebuildOfWhateverPar(t *testing.T) {
	s := turned(usual(), loses(1), func(s *api.Vault) { s.Banks.Par = []uint32{7, 9} })
	want := turned(usual(), func(s *api.Vault) {
		s.Banks = api.Banks{Rows: [][]uint32{{40, 42}, {40 ^ 7, 42 ^ 9}}, Par: []uint32{7, 9}}
	})
	becomes(t, "whatever Par", s, deed{call: "Rebuild"}, done{s: want})
	if got := store.Words(want); !slices.Equal(got, []uint32{40, 40 ^ 7, 42}) {
		t.Errorf("rebuilt: %v", got)
	}
}

// P14.1: each number of a word, a bank and an interval that isn't there: ErrArg, and the store as it is.
func TestNoSuchPlace(t *testing.T) {
	for about, s := range rights() {
		banks := len(s.Banks.Rows)
		for _, n := range append([]int{-1, banks, s.Words, s.Words + 1, banks*len(s.Banks.Par) - 1, s.Span + 1, end + 1}, far...) {
			if n < 0 || n >= s.Words {
				stays(t, about, s, deed{"Write", n, 6}, api.ErrArg)
				stays(t, about, s, deed{call: "Read", at: n}, api.ErrArg)
			}
			if n < 0 || n > s.Span {
				stays(t, about, s, deed{call: "Back", at: n}, api.ErrArg)
				stays(t, about, s, deed{call: "Trim", at: n}, api.ErrArg)
			}
			if n < 0 || n >= banks {
				stays(t, about, s, deed{call: "Lose", at: n}, api.ErrArg)
			}
		}
	}
}

// P14.1: each call with a store that isn't right: ErrArg, and the store as it is.
func TestWrongStores(t *testing.T) {
	for about, s := range wrongs() {
		for _, d := range deeds(s) {
			stays(t, about, s, d, api.ErrArg)
		}
	}
}

// P14.1: which error comes first where more than one could be told.
func TestFirstError(t *testing.T) {
	full := listed(64, 8, 4, 256)
	lost := turned(full, loses(3))
	notRight := turned(lost, func(s *api.Vault) { s.List[0].At = 64 })
	for _, c := range []struct {
		about string
		s     api.Vault
		d     deed
		want  api.Errno
	}{
		{"full, no such word", full, deed{"Write", 64, 5}, api.ErrArg},
		{"full, not right", turned(full, keeps(of(4, 0, 0))), deed{"Write", 1, 5}, api.ErrArg},
		{"full, not right: there already", turned(full, keeps(of(4, 0, 0))), deed{"Write", 0, 5}, api.ErrArg},
		{"full", full, deed{"Write", 63, 5}, api.ErrFull},
		{"full, its bank lost", lost, deed{"Write", 3, 5}, api.ErrState},
		{"full, another bank lost", lost, deed{"Write", 4, 5}, api.ErrState},
		{"full, a bank lost, no such word", lost, deed{"Write", 64, 5}, api.ErrArg},
		{"full, a bank lost, no such word below", lost, deed{"Write", -1, 5}, api.ErrArg},
		{"full, a bank lost, not right", notRight, deed{"Write", 3, 5}, api.ErrArg},
		{"a bank lost, no such word to read", lost, deed{"Read", 67, 0}, api.ErrArg},
		{"a bank lost, no such word to read, below", lost, deed{"Read", 3 - 8, 0}, api.ErrArg},
		{"a bank lost, not right, its word", notRight, deed{"Read", 3, 0}, api.ErrArg},
		{"a bank lost, not right, another word", notRight, deed{"Read", 4, 0}, api.ErrArg},
		{"a bank lost, back to no interval", lost, deed{"Back", 5, 0}, api.ErrArg},
		{"a bank lost, back to no interval, below", lost, deed{"Back", -1, 0}, api.ErrArg},
		{"a bank lost, not right, back", notRight, deed{"Back", 4, 0}, api.ErrArg},
		{"a bank lost, back to where it is", turned(lost, func(s *api.Vault) { s.List = nil }), deed{"Back", 4, 0}, api.ErrState},
		{"a bank lost, no such bank", lost, deed{"Lose", 8, 0}, api.ErrArg},
		{"a bank lost, no such bank below", lost, deed{"Lose", -1, 0}, api.ErrArg},
		{"a bank lost, not right, one more", notRight, deed{"Lose", 3, 0}, api.ErrArg},
		{"a bank lost, one more", lost, deed{"Lose", 4, 0}, api.ErrState},
		{"a bank lost, not right, rebuilt", notRight, deed{"Rebuild", 0, 0}, api.ErrArg},
		{"none lost, not right, rebuilt", turned(full, keeps(of(4, 0, 0))), deed{"Rebuild", 0, 0}, api.ErrArg},
		{"none lost, rebuilt", full, deed{"Rebuild", 0, 0}, api.ErrState},
	} {
		stays(t, c.about, c.s, c.d, c.want)
	}
}

// P14.1: each call, at all edges at once, is what the document asks.
func TestAllCalls(t *testing.T) {
	for about, s := range rights() {
		for _, d := range deeds(s) {
			becomes(t, about, s, d, d.asks(s))
		}
	}
}
