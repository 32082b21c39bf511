package clock_test

import (
	"slices"
	"testing"

	"backstay/api"
	"backstay/clock"
)

// past is all that was: each checkpoint that isn't gone back behind, from the beginning on, the time, and how many of these checkpoints are not needed any more.
type past struct {
	wait, now int
	marks     []api.Mark
	gone      int
}

// begun is a past of that wait, at the time 0, with the beginning's checkpoint.
func begun(wait int, cores []api.Core) past {
	return past{wait: wait, marks: []api.Mark{mark(0, 0, cores)}}
}

// clock is the clock that p would have.
func (p past) clock() api.Clock {
	return copied(api.Clock{Wait: p.wait, Marks: p.marks[p.gone:]})
}

// sure is which checkpoint is sure: the last one that is old enough, or else the eldest one that is needed.
func (p past) sure() int {
	n := p.gone
	for n+1 < len(p.marks) && p.marks[n+1].When+p.wait <= p.now {
		n++
	}
	return n
}

// does is p behind d, and what d answers.
func (p past) does(d deed) (past, done) {
	sure := p.sure()
	switch d.call {
	case "Tick":
		last := p.marks[len(p.marks)-1]
		switch {
		case len(p.marks)-p.gone == 8:
			return p, done{c: p.clock(), err: api.ErrFull}
		case d.span <= last.Span || d.span > end || d.now <= last.When || len(d.cores) > 4:
			return p, done{c: p.clock(), err: api.ErrArg}
		}
		p.marks = append(slices.Clone(p.marks), mark(d.span, d.now, d.cores))
	case "Sure":
		return p, done{m: p.marks[sure]}
	case "Keep":
		p.gone = sure
	case "Back":
		p.gone, p.marks = sure, slices.Clone(p.marks[:sure+1])
		return p, done{c: p.clock(), m: p.marks[sure]}
	}
	return p, done{c: p.clock()}
}

// goes holds the program to d, from the clock of p on, and to what is sure then being no elder than it was; it answers what both are then.
func goes(t *testing.T, c api.Clock, p past, d deed) (api.Clock, past) {
	t.Helper()
	d.now = p.now
	was, err := clock.Sure(c, p.now)
	next, want := p.does(d)
	got := d.does(c)
	if err != api.OK || !got.same(want) {
		t.Fatalf("%+v of %v\n= %+v\nwant %+v", d, c, got, want)
	}
	if d.call == "Sure" {
		return c, next
	}
	is, err := clock.Sure(got.c, p.now)
	if err != api.OK || !clock.Right(got.c) || is.Span < was.Span || is.When < was.When {
		t.Fatalf("%+v of %v\n= %+v; %v was sure, and is %v", d, c, got, was, is)
	}
	return got.c, next
}

// later is p at a later time, and holds the program to what is sure then being no elder than it was.
func later(t *testing.T, c api.Clock, p past, now int) past {
	t.Helper()
	was, err := clock.Sure(c, p.now)
	is, no := clock.Sure(c, now)
	if err != api.OK || no != api.OK || is.Span < was.Span || is.When < was.When {
		t.Fatalf("%v: at %d %v was sure, and at %d %v is", c, p.now, was, now, is)
	}
	p.now = now
	if !alikeMarks(is, p.marks[p.sure()]) {
		t.Fatalf("%v: at %d %v is sure, not %v", c, now, is, p.marks[p.sure()])
	}
	return p
}

// P12.3: all orders of seven calls there are, as time goes on by one or by three: what is sure is never elder than it was, and is what was taken down.
func TestAllOrders(t *testing.T) {
	var from func(c api.Clock, p past, more int)
	from = func(c api.Clock, p past, more int) {
		if more == 0 {
			return
		}
		for _, on := range []int{1, 3} {
			from(c, later(t, c, p, p.now+on), more-1)
		}
		last := p.marks[len(p.marks)-1]
		for _, d := range []deed{{"Tick", last.Span + 1, 0, cores(last.Span, 1)}, {call: "Keep"}, {call: "Back"}} {
			next, then := goes(t, c, p, d)
			from(next, then, more-1)
		}
	}
	for _, wait := range []int{1, 2, 4} {
		c, err := clock.New(wait, cores(9, 2))
		if err != api.OK {
			t.Fatal(err)
		}
		from(c, begun(wait, cores(9, 2)), 7)
	}
}

// lot gives numbers below n that look drawn, the same ones each time.
func lot(state uint64) func(n int) int {
	return func(n int) int {
		state = state*6364136223846793005 + 1442695040888963407
		return int(state>>33) % n
	}
}

// drawn is a call for the clock of p: mostly one that may be.
func drawn(draw func(n int) int, p past) deed {
	calls := []string{"Tick", "Tick", "Tick", "Tick", "Sure", "Keep", "Keep", "Back"}
	d := deed{call: calls[draw(len(calls))], span: p.marks[len(p.marks)-1].Span + 1 + draw(3), cores: cores(draw(50), draw(5))}
	switch draw(16) {
	case 0:
		d.span -= 1 + draw(3)
	case 1:
		d.cores = cores(1, 5)
	}
	return d
}

// P12.3: drawn orders of Tick, Keep, Back and Sure as time goes on, with waits from 1 to the greatest one, the clock full now and then.
func TestDrawnOrders(t *testing.T) {
	full, went := 0, 0
	waits := []int{1, 2, 3, 5, 8, 13, 40, 256, 1000, 65536, most - 1, most}
	for seed := range 600 {
		draw := lot(uint64(seed))
		wait := waits[seed%len(waits)]
		first := cores(draw(50), draw(5))
		c, err := clock.New(wait, first)
		if err != api.OK {
			t.Fatal(err)
		}
		p := begun(wait, first)
		for range 250 {
			if draw(4) > 0 {
				p = later(t, c, p, p.now+draw(1+wait/(1+draw(5))+draw(3)))
			}
			many := len(c.Marks)
			if many == 8 {
				full++
			}
			c, p = goes(t, c, p, drawn(draw, p))
			if len(c.Marks) < many {
				went++
			}
		}
	}
	if full < 1000 || went < 1000 {
		t.Errorf("%d calls of a full clock, %d of which marks went: too few to tell", full, went)
	}
}

// P12.3: drawn orders up to the last interval and the last time that there are.
func TestDrawnOrdersToTheEnd(t *testing.T) {
	ends := 0
	for seed := range 200 {
		draw := lot(uint64(5000 + seed))
		wait := 1 + draw(9)
		p := past{wait: wait, now: end - 60 - draw(40), marks: []api.Mark{mark(end-30-draw(20), end-120, cores(draw(50), 2))}}
		c := p.clock()
		for range 120 {
			p = later(t, c, p, min(end, p.now+draw(4)))
			c, p = goes(t, c, p, drawn(draw, p))
		}
		if p.now == end {
			ends++
		}
	}
	if ends < 50 {
		t.Errorf("only %d came to the end: too few to tell", ends)
	}
}

// P12.3: a mark a time, none of which is kept that isn't needed: there is room for ever, if the wait is short enough, and what is sure is just the wait old.
func TestOnAndOn(t *testing.T) {
	for wait := 1; wait <= 7; wait++ {
		c, err := clock.New(wait, cores(0, 1))
		for now := 1; now <= 100 && err == api.OK; now++ {
			if c, err = clock.Keep(c, now); err != api.OK {
				break
			}
			if c, err = clock.Tick(c, now, now, cores(now, 1)); err != api.OK {
				break
			}
			m, _ := clock.Sure(c, now)
			if want := max(0, now-wait); !alikeMarks(m, mark(want, want, cores(want, 1))) {
				t.Fatalf("wait %d: at %d %v is sure", wait, now, m)
			}
		}
		if err != api.OK {
			t.Errorf("wait %d: %d, of %v", wait, err, c)
		}
	}
	c, _ := clock.New(8, nil)
	for now := 1; now <= 7; now++ {
		c, _ = clock.Tick(c, now, now, nil)
	}
	c, _ = clock.Keep(c, 8)
	if _, err := clock.Tick(c, 8, 8, nil); err != api.ErrFull || len(c.Marks) != 8 {
		t.Errorf("wait 8: %d, of %v", err, c)
	}
}
