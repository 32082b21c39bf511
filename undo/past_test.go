package undo_test

import (
	"math"
	"slices"
	"testing"

	"backstay/api"
	"backstay/undo"
)

// span is an interval: the words as it began (or, trimmed, as the first one began that wasn't), and which were written in it since, the first one first.
type span struct {
	began []uint32
	wrote []int
}

// past is what was: a memory that keeps all words of each interval's beginning. It has no list to undo.
type past struct {
	mem   []uint32
	spans []span
}

// begun is a past of so many words, all 0, in the interval 0.
func begun(words int) past {
	mem := make([]uint32, words)
	return past{mem: mem, spans: []span{{began: slices.Clone(mem)}}}
}

// copied is a past as p is, that shares no memory with it.
func (p past) copied() past {
	own := past{mem: slices.Clone(p.mem), spans: slices.Clone(p.spans)}
	for n, s := range own.spans {
		own.spans[n].wrote = slices.Clone(s.wrote)
	}
	return own
}

// now is the interval p is in.
func (p past) now() int {
	return len(p.spans) - 1
}

// many are how many first writes there were in intervals that weren't trimmed.
func (p past) many() int {
	n := 0
	for _, s := range p.spans {
		n += len(s.wrote)
	}
	return n
}

// does is p behind d, as P11.3 has it: gone back, the memory is as it was when that interval began; trimmed, the words stay, and nothing ahead is known any more.
func (p past) does(d deed) (past, api.Errno) {
	own, now := p.copied(), p.now()
	switch d.call {
	case "Write":
		if d.at < 0 || d.at >= len(p.mem) {
			return p, api.ErrArg
		}
		if !slices.Contains(p.spans[now].wrote, d.at) {
			if p.many() == 256 {
				return p, api.ErrFull
			}
			own.spans[now].wrote = append(own.spans[now].wrote, d.at)
		}
		own.mem[d.at] = d.w
	case "Next":
		own.spans = append(own.spans, span{began: slices.Clone(p.mem)})
	case "Back":
		if d.at < 0 || d.at > now {
			return p, api.ErrArg
		}
		own.mem = slices.Clone(p.spans[d.at].began)
		own.spans = own.spans[:d.at+1]
		own.spans[d.at].wrote = nil
	case "Trim":
		if d.at < 0 || d.at > now {
			return p, api.ErrArg
		}
		for n := range d.at {
			own.spans[n] = span{began: p.spans[d.at].began}
		}
	}
	return own, api.OK
}

// log is the log that p would be.
func (p past) log() api.Log {
	l := api.Log{Mem: slices.Clone(p.mem), Span: p.now()}
	for n, s := range p.spans {
		for _, at := range s.wrote {
			l.List = append(l.List, of(n, at, s.began[at]))
		}
	}
	return l
}

// goes holds the program to d, from the log of p on, and answers what both are then.
func goes(t *testing.T, what string, l api.Log, p past, d deed) (api.Log, past) {
	t.Helper()
	got := d.does(l)
	next, err := p.does(d)
	if want := (done{next.log(), err}); !got.same(want) || !undo.Right(got.l) || undo.Room(got.l) != 256-next.many() {
		t.Fatalf("%s: %+v of %v\n= %+v, room for %d\nwant %+v", what, d, l, got, undo.Room(got.l), want)
	}
	return got.l, next
}

// looksBack holds the program to what was at each interval's beginning.
func looksBack(t *testing.T, what string, l api.Log, p past) {
	t.Helper()
	for n, s := range p.spans {
		got, err := undo.Back(l, n)
		if err != api.OK || got.Span != n || !slices.Equal(got.Mem, s.began) {
			t.Fatalf("%s: %v gone back to %d is %v, %d; it began with %v", what, l, n, got, err, s.began)
		}
	}
}

// P11.3: all orders of six calls there are, of two words: written, gone on, gone back and trimmed. What was is what the log goes back to.
func TestAllOrders(t *testing.T) {
	all := []deed{{"Write", 0, 5}, {"Write", 0, 6}, {"Write", 1, 7}, {"Next", 0, 0}, {"Back", 0, 0}, {"Back", 1, 0}, {"Trim", 1, 0}, {"Trim", 2, 0}}
	var from func(l api.Log, p past, more int)
	from = func(l api.Log, p past, more int) {
		looksBack(t, "all orders", l, p)
		if more == 0 {
			return
		}
		for _, d := range all {
			next, then := goes(t, "all orders", l, p, d)
			from(next, then, more-1)
		}
	}
	l, err := undo.New(2)
	if err != api.OK {
		t.Fatal(err)
	}
	from(l, begun(2), 6)
}

// lot gives numbers below n that look drawn, the same ones each time.
func lot(state uint64) func(n int) int {
	return func(n int) int {
		state = state*6364136223846793005 + 1442695040888963407
		return int(state>>33) % n
	}
}

// drawn is a deed for the log l, now and then a wrong one; going back and trimming mostly not far.
func drawn(draw func(n int) int, l api.Log) deed {
	calls := []string{"Write", "Write", "Write", "Write", "Write", "Write", "Next", "Next", "Back", "Trim"}
	d := deed{call: calls[draw(len(calls))], at: max(0, l.Span-draw(4)), w: uint32(draw(math.MaxInt32))*3 + 1}
	if d.call == "Write" {
		d.at = draw(len(l.Mem))
	}
	switch draw(12) {
	case 0:
		d.at = draw(l.Span+3) - 1
	case 1:
		d.at = draw(len(l.Mem)+2) - 1
	case 2:
		if d.call == "Write" {
			d.w = l.Mem[d.at]
		}
	}
	return d
}

// P11.3: drawn orders of up to 64 words: what was is what the log goes back to, and a trimmed interval's words stay.
func TestDrawnOrders(t *testing.T) {
	for seed := range 150 {
		draw := lot(uint64(seed))
		words := 1 + draw(64)
		if seed%3 == 0 {
			words = 1 + draw(4)
		}
		l, err := undo.New(words)
		if err != api.OK {
			t.Fatal(err)
		}
		p := begun(words)
		for n := range 300 {
			l, p = goes(t, "drawn", l, p, drawn(draw, l))
			if n%25 == 0 {
				looksBack(t, "drawn", l, p)
			}
		}
	}
}

// P11.3: drawn orders in which hardly anything goes, so that there is no room any more, and room again behind it.
func TestDrawnOrdersToTheFull(t *testing.T) {
	full := 0
	for seed := range 30 {
		draw := lot(uint64(1000 + seed))
		l, err := undo.New(64)
		if err != api.OK {
			t.Fatal(err)
		}
		p := begun(64)
		for range 900 {
			d := deed{"Write", draw(64), uint32(draw(math.MaxInt32))}
			switch n := draw(300); {
			case n < 6:
				d = deed{call: "Next"}
			case n == 6:
				d = deed{call: "Back", at: draw(l.Span + 1)}
			case n == 7:
				d = deed{call: "Trim", at: draw(l.Span + 1)}
			}
			if undo.Room(l) == 0 {
				full++
			}
			l, p = goes(t, "to the full", l, p, d)
		}
		looksBack(t, "to the full", l, p)
	}
	if full < 1000 {
		t.Errorf("only %d calls where there is no room: too few to tell", full)
	}
}

// P11.3: from logs that are in the midst of something, near edges of Span, too: each interval, written in and gone back to, is as it began; gone back to one that is trimmed, all words are as the first one began that isn't.
func TestWrittenAndGoneBack(t *testing.T) {
	for about, l := range rights() {
		began := deed{call: "Back", at: l.Span}.asks(l).l
		now := l
		for at := range l.Mem {
			if got, err := undo.Write(now, at, word(9, at)); err == api.OK {
				now = got
			}
		}
		becomes(t, about, now, deed{call: "Back", at: l.Span}, done{l: began})
		trimmed, err := undo.Trim(now, l.Span)
		if err != api.OK || !slices.Equal(trimmed.Mem, now.Mem) || trimmed.Span != l.Span {
			t.Errorf("%s: trimmed: %v, %d", about, trimmed, err)
		}
		for _, to := range []int{0, l.Span / 2, l.Span} {
			becomes(t, about, trimmed, deed{call: "Back", at: to}, done{l: api.Log{Mem: began.Mem, Span: to}})
		}
	}
}
