package store_test

import (
	"math"
	"slices"
	"testing"

	"backstay/api"
	"backstay/store"
	"backstay/undo"
)

// span is an interval: the words as it began (or, trimmed, as the first one began that wasn't), and which were written in it since, the first one first.
type span struct {
	began []uint32
	wrote []int
}

// past is what was: a memory that keeps all words of each interval's beginning, in so many banks, of which one may be lost (from 1 on; 0: none). It has neither Par nor a list to undo, and forgets no word by a loss.
type past struct {
	mem         []uint32
	spans       []span
	banks, lost int
}

// begun is a past of so many words in so many banks, all 0, in the interval 0.
func begun(words, banks int) past {
	mem := make([]uint32, words)
	return past{mem: mem, spans: []span{{began: slices.Clone(mem)}}, banks: banks}
}

// copied is a past as p is, that shares no memory with it.
func (p past) copied() past {
	own := p
	own.mem, own.spans = slices.Clone(p.mem), slices.Clone(p.spans)
	for n, s := range own.spans {
		own.spans[n].wrote = slices.Clone(s.wrote)
	}
	return own
}

// now is the interval p is in.
func (p past) now() int {
	return len(p.spans) - 1
}

// many are how many first writes there were in intervals that weren't trimmed.
func (p past) many() int {
	n := 0
	for _, s := range p.spans {
		n += len(s.wrote)
	}
	return n
}

// refuses is the error d tells of p.
func (p past) refuses(d deed) api.Errno {
	most := map[string]int{"Read": len(p.mem) - 1, "Write": len(p.mem) - 1, "Back": p.now(), "Trim": p.now(), "Lose": p.banks - 1}
	if most, is := most[d.call]; is && (d.at < 0 || d.at > most) {
		return api.ErrArg
	}
	switch d.call {
	case "Read":
		if p.gone(d.at) {
			return api.ErrState
		}
	case "Write", "Back", "Lose":
		if p.lost > 0 {
			return api.ErrState
		}
	case "Rebuild":
		if p.lost == 0 {
			return api.ErrState
		}
	}
	if d.call == "Write" && !slices.Contains(p.spans[p.now()].wrote, d.at) && p.many() == 256 {
		return api.ErrFull
	}
	return api.OK
}

// gone answers whether the word at is in the bank that is lost.
func (p past) gone(at int) bool {
	return p.lost > 0 && at%p.banks == p.lost-1
}

// does is p behind d, as P14.2 has it: gone back, all words are as they were when that interval began; trimmed, the words stay; rebuilt, they are there again.
func (p past) does(d deed) past {
	own, now := p.copied(), p.now()
	switch d.call {
	case "Write":
		if !slices.Contains(p.spans[now].wrote, d.at) {
			own.spans[now].wrote = append(own.spans[now].wrote, d.at)
		}
		own.mem[d.at] = d.w
	case "Next":
		own.spans = append(own.spans, span{began: slices.Clone(p.mem)})
	case "Back":
		own.mem = slices.Clone(p.spans[d.at].began)
		own.spans = own.spans[:d.at+1]
		own.spans[d.at].wrote = nil
	case "Trim":
		for n := range d.at {
			own.spans[n] = span{began: p.spans[d.at].began}
		}
	case "Lose":
		own.lost = d.at + 1
	case "Rebuild":
		own.lost = 0
	}
	return own
}

// vault is the store that p would be: a lost bank's words are 0, but in Par.
func (p past) vault() api.Vault {
	s := api.Vault{Banks: laid(p.mem, p.banks), Words: len(p.mem), Span: p.now()}
	for n, one := range p.spans {
		for _, at := range one.wrote {
			s.List = append(s.List, of(n, at, one.began[at]))
		}
	}
	if p.lost > 0 {
		loses(p.lost - 1)(&s)
	}
	return s
}

// goes holds the program to d, from the store of p on, and answers what both are then.
func goes(t *testing.T, what string, s api.Vault, p past, d deed) (api.Vault, past) {
	t.Helper()
	err := p.refuses(d)
	next := p
	if err == api.OK {
		next = p.does(d)
	}
	want := done{s: next.vault(), err: err}
	if d.call == "Read" {
		want.s = api.Vault{}
		if err == api.OK {
			want.w = p.mem[d.at]
		}
	}
	got := d.does(s)
	if !got.same(want) {
		t.Fatalf("%s: %+v of %v\n= %+v\nwant %+v", what, d, s, got, want)
	}
	if d.call == "Read" {
		return s, p
	}
	if !store.Right(got.s) {
		t.Fatalf("%s: %+v of %v\n= %+v: it isn't right", what, d, s, got)
	}
	return got.s, next
}

// looksBack holds the program to what was at each interval's beginning, whichever bank is lost meanwhile, and rebuilt.
func looksBack(t *testing.T, what string, s api.Vault, p past) {
	t.Helper()
	for n, was := range p.spans {
		for bank := range p.banks {
			whole := s
			if p.lost == 0 {
				whole, _ = store.Lose(s, bank)
			} else if bank > 0 {
				break
			}
			whole, err := store.Rebuild(whole)
			if err != api.OK {
				t.Fatalf("%s: %v rebuilt: %d", what, s, err)
			}
			got, err := store.Back(whole, n)
			if err != api.OK || got.Span != n || !slices.Equal(store.Words(got), was.began) {
				t.Fatalf("%s: %v rebuilt, and gone back to %d, is %v, %d; it began with %v", what, s, n, got, err, was.began)
			}
		}
	}
}

// P14.2: all orders of six calls there are, of two words in two banks: written, gone on and back, trimmed, lost and rebuilt. What was is what the store goes back to.
func TestAllOrders(t *testing.T) {
	all := []deed{{"Write", 0, 5}, {"Write", 0, 6}, {"Write", 1, 7}, {"Next", 0, 0}, {"Back", 0, 0}, {"Back", 1, 0}, {"Trim", 1, 0}, {"Lose", 0, 0}, {"Lose", 1, 0}, {"Rebuild", 0, 0}}
	var from func(s api.Vault, p past, more int)
	from = func(s api.Vault, p past, more int) {
		if more == 0 {
			looksBack(t, "all orders", s, p)
			return
		}
		for _, d := range all {
			if p.refuses(d) != api.OK && more > 1 {
				goes(t, "all orders", s, p, d)
				continue
			}
			next, then := goes(t, "all orders", s, p, d)
			from(next, then, more-1)
		}
	}
	s, err := store.New(2, 2)
	if err != api.OK {
		t.Fatal(err)
	}
	from(s, begun(2, 2), 6)
}

// lot gives numbers below n that look drawn, the same ones each time.
func lot(state uint64) func(n int) int {
	return func(n int) int {
		state = state*6364136223846793005 + 1442695040888963407
		return int(state>>33) % n
	}
}

// drawn is a deed for the store s, now and then a wrong one; going back and trimming mostly not far. A bank that is lost is mostly rebuilt soon.
func drawn(draw func(n int) int, s api.Vault) deed {
	calls := []string{"Write", "Write", "Write", "Write", "Write", "Write", "Next", "Next", "Back", "Trim", "Read", "Lose"}
	if s.Banks.Lost > 0 {
		calls = append(calls, "Rebuild", "Rebuild", "Rebuild", "Rebuild")
	}
	d := deed{call: calls[draw(len(calls))], at: max(0, s.Span-draw(4)), w: uint32(draw(math.MaxInt32))*3 + 1}
	switch d.call {
	case "Write", "Read":
		d.at = draw(s.Words)
	case "Lose":
		d.at = draw(len(s.Banks.Rows))
	}
	switch draw(15) {
	case 0:
		d.at = draw(s.Span+3) - 1
	case 1:
		d.at = draw(s.Words+2) - 1
	case 2:
		d.at = draw(len(s.Banks.Rows)+2) - 1
	}
	return d
}

// newOf is a new store of so many words and banks, and its past.
func newOf(t *testing.T, words, banks int) (api.Vault, past) {
	t.Helper()
	s, err := store.New(words, banks)
	if err != api.OK {
		t.Fatal(err)
	}
	return s, begun(words, banks)
}

// P14.2: drawn orders of up to 64 words in up to 8 banks: what was is what the store goes back to, whichever bank is lost, at whatever time, and rebuilt.
func TestDrawnOrders(t *testing.T) {
	for seed := range 160 {
		draw := lot(uint64(seed))
		words, banks := 1+draw(64), 1+draw(8)
		if seed%3 == 0 {
			words = 1 + draw(4)
		}
		s, p := newOf(t, words, banks)
		for n := range 300 {
			s, p = goes(t, "drawn", s, p, drawn(draw, s))
			if n%50 == 0 {
				looksBack(t, "drawn", s, p)
			}
		}
	}
}

// P14.2: drawn orders in which hardly anything goes, so that there is no room any more, and room again behind it.
func TestDrawnOrdersToTheFull(t *testing.T) {
	full := 0
	for seed := range 20 {
		draw := lot(uint64(1000 + seed))
		s, p := newOf(t, 64, 1+draw(8))
		for range 900 {
			d := deed{"Write", draw(64), uint32(draw(math.MaxInt32))}
			switch n := draw(300); {
			case s.Banks.Lost > 0 && n > 200:
				d = deed{call: "Rebuild"}
			case n < 6:
				d = deed{call: "Next"}
			case n == 6:
				d = deed{call: "Back", at: draw(s.Span + 1)}
			case n == 7:
				d = deed{call: "Trim", at: draw(s.Span + 1)}
			case n < 11:
				d = deed{call: "Lose", at: draw(len(s.Banks.Rows))}
			}
			if p.many() == 256 {
				full++
			}
			s, p = goes(t, "to the full", s, p, d)
		}
		looksBack(t, "to the full", s, p)
	}
	if full < 1000 {
		t.Errorf("only %d calls where there is no room: too few to tell", full)
	}
}

// P14.2: a store, drawn, is what a log of the same words is, but for its banks; while one of them is lost, the log waits.
func TestAsALog(t *testing.T) {
	for seed := range 60 {
		draw := lot(uint64(5000 + seed))
		words := 1 + draw(64)
		s, _ := newOf(t, words, 1+draw(8))
		l, err := undo.New(words)
		if err != api.OK {
			t.Fatal(err)
		}
		for range 400 {
			d := drawn(draw, s)
			got := d.does(s)
			lost := s.Banks.Lost > 0
			want := api.OK
			switch {
			case d.call == "Next":
				l, want = undo.Next(l)
			case d.call == "Trim":
				l, want = undo.Trim(l, d.at)
			case d.call == "Back" && !lost:
				l, want = undo.Back(l, d.at)
			case d.call == "Write" && !lost:
				l, want = undo.Write(l, d.at, d.w)
			default:
				want = got.err
			}
			if d.call != "Read" {
				s = got.s
			}
			mem := slices.Clone(l.Mem)
			for at := range mem {
				if at%len(s.Banks.Rows) == s.Banks.Lost-1 {
					mem[at] = 0
				}
			}
			if got.err != want || s.Span != l.Span || !slices.Equal(s.List, l.List) || !slices.Equal(store.Words(s), mem) {
				t.Fatalf("%+v = %d, %v; a log: %d, %v", d, got.err, s, want, l)
			}
		}
	}
}

// P14.2: from stores that are in the midst of something, near edges of Span, too: each interval, written in, a bank of it lost and rebuilt, and gone back to, is as it began; gone back to one that is trimmed, all words are as the first one began that isn't.
func TestWrittenLostAndGoneBack(t *testing.T) {
	for about, s := range rights() {
		if s.Banks.Lost > 0 {
			continue
		}
		began := deed{call: "Back", at: s.Span}.asks(s).s
		now := s
		for at := range s.Words {
			if got, err := store.Write(now, at, word(9, at)); err == api.OK {
				now = got
			}
		}
		for bank := range s.Banks.Rows {
			lost, err := store.Lose(now, bank)
			if err != api.OK {
				t.Fatalf("%s: %d", about, err)
			}
			trimmed, err := store.Trim(lost, s.Span)
			if err != api.OK || !alikeBanks(trimmed.Banks, lost.Banks) || trimmed.Span != s.Span {
				t.Errorf("%s: trimmed: %v, %d", about, trimmed, err)
			}
			whole, _ := store.Rebuild(lost)
			becomes(t, about, whole, deed{call: "Back", at: s.Span}, done{s: began})
			whole, _ = store.Rebuild(trimmed)
			for _, to := range []int{0, s.Span / 2, s.Span} {
				becomes(t, about, whole, deed{call: "Back", at: to}, done{s: api.Vault{Banks: began.Banks, Words: s.Words, Span: to}})
			}
		}
	}
}
