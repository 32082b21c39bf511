package commit_test

import (
	"slices"
	"testing"

	"backstay/api"
	"backstay/commit"
)

// What became of something that was told.
const (
	waits   = 0
	isOut   = 1
	forgone = 2
)

// tale is something that was told, in which interval, and what became of it.
type tale struct {
	t    api.Told
	span int
	is   int
}

// past is all that was ever told, in order, what became of each, and which interval it is.
type past struct {
	tales []tale
	span  int
}

// gate is the gate that p would have; nothing that stands behind something that waits was let out ahead of it.
func (p past) gate() api.Gate {
	var g api.Gate
	for _, one := range p.tales {
		switch one.is {
		case waits:
			g.Held = append(g.Held, api.Held{Told: one.t, Span: one.span})
		case isOut:
			g.Out = append(g.Out, one.t)
		}
	}
	return g
}

// waiting is how many of what was told wait, and the interval of the last one of these, or 0.
func (p past) waiting() (int, int) {
	many, last := 0, 0
	for _, one := range p.tales {
		if one.is == waits {
			many, last = many+1, one.span
		}
	}
	return many, last
}

// becoming is p, all that waits of which the interval may become is that.
func (p past) becoming(is int, may func(span int) bool) past {
	p.tales = slices.Clone(p.tales)
	for n, one := range p.tales {
		if one.is == waits && may(one.span) {
			p.tales[n].is = is
		}
	}
	return p
}

// does is p behind d, and what d answers.
func (p past) does(d deed) (past, done) {
	switch d.call {
	case "Tell":
		many, last := p.waiting()
		switch {
		case d.span < last:
			return p, done{g: p.gate(), err: api.ErrArg}
		case many == 64:
			return p, done{g: p.gate(), err: api.ErrFull}
		}
		p.tales = append(slices.Clone(p.tales), tale{d.t, d.span, waits})
	case "Sure":
		p = p.becoming(isOut, func(span int) bool { return span < d.span })
	case "Back":
		p = p.becoming(forgone, func(span int) bool { return span >= d.span })
		p.span = min(p.span, d.span)
	}
	return p, done{g: p.gate()}
}

// begins answers whether a is a beginning of b.
func begins(a, b []api.Told) bool {
	return len(a) <= len(b) && slices.Equal(a, b[:len(a)])
}

// goes holds the program to d, from the gate of p on: what was let out stays, in order, and all stays by Sure. It answers what both are then.
func goes(t *testing.T, g api.Gate, p past, d deed) (api.Gate, past) {
	t.Helper()
	next, want := p.does(d)
	was, got := commit.All(g), d.does(g)
	if !got.same(want) {
		t.Fatalf("%+v of %v\n= %+v\nwant %+v", d, g, got, want)
	}
	if !commit.Right(got.g) || !begins(g.Out, got.g.Out) {
		t.Fatalf("%+v of %v\n= %+v: what was let out does not stay", d, g, got)
	}
	is := commit.All(got.g)
	if d.call == "Sure" && !slices.Equal(is, was) || d.call == "Tell" && !begins(was, is) || d.call == "Back" && !begins(is, was) {
		t.Fatalf("%+v of %v\n= %+v: all was %v, and is %v", d, g, got, was, is)
	}
	return got.g, next
}

// P13.2: all orders of six calls there are, in three intervals: what was let out stays, in order, and all stays by Sure.
func TestAllOrders(t *testing.T) {
	var from func(g api.Gate, p past, more int)
	from = func(g api.Gate, p past, more int) {
		if more == 0 {
			return
		}
		for span := range 3 {
			for _, d := range []deed{{"Tell", span, told(len(p.tales))}, {call: "Sure", span: span + 1}, {call: "Back", span: span}} {
				next, then := goes(t, g, p, d)
				from(next, then, more-1)
			}
		}
	}
	from(api.Gate{}, past{}, 6)
}

// lot gives numbers below n that look drawn, the same ones each time.
func lot(state uint64) func(n int) int {
	return func(n int) int {
		state = state*6364136223846793005 + 1442695040888963407
		return int(state>>33) % n
	}
}

// drawn is a call of one that is in p: mostly telling in its interval, now and then in another one.
func drawn(draw func(n int) int, p past) deed {
	near := max(0, p.span-draw(6))
	switch draw(24) {
	case 0, 1:
		return deed{call: "Sure", span: near}
	case 2:
		return deed{call: "Back", span: near}
	case 3:
		return deed{call: []string{"Sure", "Back"}[draw(2)], span: min(end, p.span+draw(3))}
	case 4:
		return deed{"Tell", near, told(draw(30))}
	}
	return deed{"Tell", p.span, told(draw(30))}
}

// P13.2: many drawn orders of telling, going on, Sure and Back, the gate full now and then, from the first interval on, and up to the last one that there is.
func TestDrawnOrders(t *testing.T) {
	full, out, back := 0, 0, 0
	for seed := range 400 {
		draw := lot(uint64(seed))
		p := past{}
		if seed%4 == 3 {
			p.span = end - 20
		}
		calm := 1 + draw(12)
		g := api.Gate{}
		for range 300 {
			if draw(calm) == 0 {
				p.span = min(end, p.span+1+draw(2))
			}
			d := drawn(draw, p)
			if draw(calm) > 0 {
				d = deed{"Tell", p.span, told(draw(30))}
			}
			was := g
			g, p = goes(t, g, p, d)
			if d.call == "Tell" && len(was.Held) == 64 {
				full++
			}
			if d.call == "Back" && len(g.Held) < len(was.Held) {
				back++
			}
		}
		out += len(g.Out)
	}
	if full < 1000 || out < 10000 || back < 1000 {
		t.Errorf("%d calls of a full gate, %d let out, %d times something was forgotten: too few to tell", full, out, back)
	}
}

// P13.2: a run as a machine has one: of each interval some is told; those that are sure follow some behind, and now and then it goes back to the one that is sure, and tells other things: what is let out is what wasn't gone back behind, in order, each once.
func TestOnAndBack(t *testing.T) {
	for seed := range 200 {
		draw := lot(uint64(900 + seed))
		g := api.Gate{}
		var kept []api.Held
		span, sure, last := 0, 0, 0
		for n := range 400 {
			switch draw(9) {
			case 0, 1:
				span++
			case 2, 3:
				sure = min(span, sure+draw(3))
				g, _ = commit.Sure(g, sure)
			case 4:
				g, _ = commit.Back(g, sure)
				kept = slices.DeleteFunc(kept, func(h api.Held) bool { return h.Span >= sure })
				span = sure
			default:
				h := api.Held{Told: told(n), Span: span}
				next, err := commit.Tell(g, h.Span, h.Told)
				if err == api.OK {
					kept = append(kept, h)
				} else if err != api.ErrFull || len(g.Held) != 64 {
					t.Fatalf("%v is told: %d, of %v", h, err, g)
				}
				g = next
			}
			var want, all []api.Told
			for _, h := range kept {
				all = append(all, h.Told)
				if h.Span < sure {
					want = all
				}
			}
			if !slices.Equal(g.Out, want) || !slices.Equal(commit.All(g), all) || len(g.Out) < last {
				t.Fatalf("seed %d, %d: %v was let out, all is %v; want %v of %v", seed, n, g.Out, commit.All(g), want, all)
			}
			last = len(g.Out)
		}
	}
}
