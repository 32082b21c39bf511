package commit_test

import (
	"fmt"
	"math"
	"slices"
	"testing"

	"backstay/api"
	"backstay/commit"
)

// end is the last interval there is.
const end = 1 << 40

// far are numbers of no intervals, some of which a narrower integer would take for one.
var far = []int{-2, -8, -256, -1 << 20, -1 << 32, -1 << 40, end + 2, end + 256, end + 1<<32, 1 << 41, math.MaxInt, math.MaxInt - 1, math.MinInt, math.MinInt + 1}

// told is something that is told, another one for each n below 2^20.
func told(n int) api.Told {
	return api.Told{Core: n % 4, Val: uint32(n+1) * 0x01020305}
}

// hold is that, held of an interval.
func hold(n, span int) api.Held {
	return api.Held{Told: told(n), Span: span}
}

// let is so much that was let out.
func let(many int) []api.Told {
	var all []api.Told
	for n := range many {
		all = append(all, told(1000+n))
	}
	return all
}

// of is a gate that let out so much, and holds something of each of these intervals.
func of(out int, spans ...int) api.Gate {
	g := api.Gate{Out: let(out)}
	for n, span := range spans {
		g.Held = append(g.Held, hold(n, span))
	}
	return g
}

// row is a gate that let out so much, and holds so many, from that interval on, so far apart.
func row(out, many, span, spans int) api.Gate {
	var all []int
	for n := range many {
		all = append(all, span+n*spans)
	}
	return of(out, all...)
}

// copied is a gate as g is, that shares no memory with it.
func copied(g api.Gate) api.Gate {
	return api.Gate{Held: slices.Clone(g.Held), Out: slices.Clone(g.Out)}
}

// turned is the gate g with something of it turned.
func turned(g api.Gate, by func(g *api.Gate)) api.Gate {
	g = copied(g)
	by(&g)
	return g
}

// alike answers whether a and b are; a list is nil or empty alike.
func alike(a, b api.Gate) bool {
	return slices.Equal(a.Held, b.Held) && slices.Equal(a.Out, b.Out)
}

// deed is a call: which, and with what.
type deed struct {
	call string
	span int
	t    api.Told
}

// done is what became of it.
type done struct {
	g   api.Gate
	all []api.Told
	err api.Errno
}

// same answers whether a and b are.
func (a done) same(b done) bool {
	return alike(a.g, b.g) && slices.Equal(a.all, b.all) && a.err == b.err
}

// does is what the program makes of d.
func (d deed) does(g api.Gate) done {
	var got done
	switch d.call {
	case "Tell":
		got.g, got.err = commit.Tell(g, d.span, d.t)
	case "Sure":
		got.g, got.err = commit.Sure(g, d.span)
	case "Back":
		got.g, got.err = commit.Back(g, d.span)
	case "All":
		got.all = commit.All(g)
	}
	return got
}

// right answers whether the document takes g for right.
func right(g api.Gate) bool {
	for n, h := range g.Held {
		if h.Span < 0 || h.Span > end || n > 0 && h.Span < g.Held[n-1].Span {
			return false
		}
	}
	return len(g.Held) <= 64
}

// all is all that was told of g, as the document has it.
func all(g api.Gate) []api.Told {
	var list []api.Told
	list = append(list, g.Out...)
	for _, h := range g.Held {
		list = append(list, h.Told)
	}
	return list
}

// asks is what the document asks of d, told without the program.
func (d deed) asks(g api.Gate) done {
	if d.call == "All" {
		return done{all: all(g)}
	}
	if !right(g) || d.span < 0 || d.span > end {
		return done{g: copied(g), err: api.ErrArg}
	}
	now := api.Gate{Out: slices.Clone(g.Out)}
	for _, h := range g.Held {
		switch {
		case d.call == "Tell" && h.Span > d.span:
			return done{g: copied(g), err: api.ErrArg}
		case d.call == "Sure" && h.Span < d.span:
			now.Out = append(now.Out, h.Told)
		case d.call != "Back" || h.Span < d.span:
			now.Held = append(now.Held, h)
		}
	}
	if d.call == "Tell" && len(g.Held) == 64 {
		return done{g: copied(g), err: api.ErrFull}
	}
	if d.call == "Tell" {
		now.Held = append(now.Held, api.Held{Told: d.t, Span: d.span})
	}
	return done{g: now}
}

// becomes holds the program to making want of d.
func becomes(t *testing.T, what string, g api.Gate, d deed, want done) {
	t.Helper()
	if got := d.does(g); !got.same(want) {
		t.Errorf("%s: %+v of %v\n= %+v\nwant %+v", what, d, g, got, want)
	}
}

// stays holds the program to leaving the gate as it is, with that error.
func stays(t *testing.T, what string, g api.Gate, d deed, err api.Errno) {
	t.Helper()
	becomes(t, what, g, d, done{g: copied(g), err: err})
}

// usual is a gate that let out three, and holds several of one interval, and of several.
func usual() api.Gate {
	return of(3, 2, 2, 3, 7, 7, 7, 9)
}

// rights are gates that may be.
func rights() map[string]api.Gate {
	return map[string]api.Gate{
		"nothing":                        {},
		"empty lists":                    {Held: []api.Held{}, Out: []api.Told{}},
		"the document's example":         {Held: []api.Held{{Told: api.Told{Val: 5}}, {Told: api.Told{Val: 6}, Span: 1}}},
		"usual":                          usual(),
		"one let out":                    of(1),
		"some let out":                   of(7),
		"65 let out":                     of(65),
		"300 let out":                    of(300),
		"one held, of the beginning":     of(0, 0),
		"one held, of the end":           of(0, end),
		"one held, in between":           of(2, 70),
		"two held, of the beginning":     of(0, 0, 0),
		"two held, of the end":           of(1, end, end),
		"two held, one apart":            of(1, 4, 5),
		"two held, as far as there is":   of(0, 0, end),
		"three held, at the end":         of(4, end-1, end, end),
		"three held, 2^32 apart":         of(1, 1, 1+1<<32, 1+1<<33),
		"four held, 256 apart":           of(1, 0, 256, 512, 768),
		"63 held, of one interval":       row(2, 63, 8, 0),
		"64 held, of one interval":       row(2, 64, 8, 0),
		"64 held, of the beginning":      row(0, 64, 0, 0),
		"64 held, of the end":            row(1, 64, end, 0),
		"63 held, each of its own":       row(0, 63, 0, 1),
		"64 held, each of its own":       row(0, 64, 0, 1),
		"64 held, far apart":             row(70, 64, 5, 1<<33),
		"64 held, up to the end":         row(3, 64, end-63, 1),
		"64 held, the last of the end":   turned(row(3, 64, 4, 0), func(g *api.Gate) { g.Held[63].Span = end }),
		"65 let out and 64 held":         row(65, 64, 3, 2),
		"the same told, again and again": {Held: []api.Held{hold(1, 0), hold(1, 0), hold(1, 3), hold(1, 4)}, Out: []api.Told{told(1), told(1)}},
		"cores that there aren't":        {Held: []api.Held{{Told: api.Told{Core: -1, Val: 7}, Span: 1}, {Told: api.Told{Core: math.MaxInt}, Span: 2}}, Out: []api.Told{{Core: 4}, {Core: math.MinInt, Val: math.MaxUint32}}},
	}
}

// name is n as a name has it.
func name(n int) string {
	return fmt.Sprint(n)
}

// wrongs are gates that may not be.
func wrongs() map[string]api.Gate {
	all := map[string]api.Gate{
		"65 held, of one interval":   row(0, 65, 0, 0),
		"65 held, each of its own":   row(2, 65, 3, 1),
		"66 held":                    row(0, 66, 0, 1),
		"128 held":                   row(1, 128, 0, 2),
		"256 held":                   row(1, 256, 0, 2),
		"257 held":                   row(1, 257, 4, 0),
		"320 held":                   row(66, 320, 4, 1),
		"65 held, and a wrong order": turned(row(2, 65, 3, 1), func(g *api.Gate) { slices.Reverse(g.Held) }),
	}
	for about, right := range rights() {
		for n := range right.Held {
			for _, span := range append([]int{-1, end + 1}, far...) {
				all[about+": Span "+name(span)+" at the place "+name(n)] = turned(right, func(g *api.Gate) { g.Held[n].Span = span })
			}
			ahead := right.Held[max(0, n-1)].Span
			if n == 0 || ahead == 0 {
				continue
			}
			all[about+": one less than the one's ahead at the place "+name(n)] = turned(right, func(g *api.Gate) { g.Held[n].Span = ahead - 1 })
			all[about+": Span 0 at the place "+name(n)] = turned(right, func(g *api.Gate) { g.Held[n].Span = 0 })
			if ahead != right.Held[n].Span {
				all[about+": places changed at the place "+name(n)] = turned(right, func(g *api.Gate) { g.Held[n-1], g.Held[n] = g.Held[n], g.Held[n-1] })
			}
		}
	}
	return all
}

// spans are intervals just below, at and just above each one of which g holds something, and edges; such as there are not, too.
func spans(g api.Gate) []int {
	list := append([]int{-1, 0, 1, end - 1, end, end + 1}, far...)
	for n, h := range g.Held {
		if n < 8 || n > len(g.Held)-3 {
			list = append(list, h.Span-1, h.Span, h.Span+1, h.Span+256)
		}
	}
	slices.Sort(list)
	return slices.Compact(list)
}

// deeds are all calls of g.
func deeds(g api.Gate) []deed {
	list := []deed{{call: "All"}}
	for _, span := range spans(g) {
		list = append(list, deed{"Tell", span, told(77)}, deed{call: "Sure", span: span}, deed{call: "Back", span: span})
	}
	return list
}

// P13.1: Right, of gates that may be.
func TestRight(t *testing.T) {
	for about, g := range rights() {
		if !right(g) || !commit.Right(g) {
			t.Errorf("%s: %v isn't right", about, g)
		}
	}
}

// P13.1: Right, of gates that may not be.
func TestNotRight(t *testing.T) {
	for about, g := range wrongs() {
		if right(g) || commit.Right(g) {
			t.Errorf("%s: %v is right", about, g)
		}
	}
}

// P13.1: Right, of each number held and let out near the edges, and of each interval.
func TestRightEdges(t *testing.T) {
	for many := range 70 {
		for _, spans := range []int{0, 1, 1 << 33} {
			for _, out := range []int{0, 1, 63, 64, 65, 256} {
				if got := commit.Right(row(out, many, 1, spans)); got != (many <= 64) {
					t.Errorf("%d held, %d apart, and %d let out: %t", many, spans, out, got)
				}
			}
		}
	}
	for _, n := range append([]int{-1, 0, 1, end - 1, end, end + 1}, far...) {
		if got := commit.Right(of(0, n)); got != (n >= 0 && n <= end) {
			t.Errorf("Span %d: %t", n, got)
		}
	}
	for _, many := range []int{2, 3, 63, 64} {
		for place := 1; place < many; place++ {
			for _, by := range []int{-4, -1, 0, 1} {
				g := turned(row(0, many, 4, 0), func(g *api.Gate) {
					for n := place; n < many; n++ {
						g.Held[n].Span += by
					}
				})
				if got := commit.Right(g); got != (by >= 0) {
					t.Errorf("%d held, from the place %d on %d more: %t", many, place, by, got)
				}
			}
		}
	}
}

// P13.1: Right, of three held, by all intervals that are near one another.
func TestRightThree(t *testing.T) {
	for n := range 125 {
		a, b, c := n%5-1, n/5%5-1, n/25-1
		if got := commit.Right(of(1, a, b, c)); got != (a >= 0 && b >= a && c >= b) {
			t.Errorf("Spans %d, %d and %d: %t", a, b, c, got)
		}
	}
}

// step is a deed, and what becomes of it.
type step struct {
	d    deed
	want done
}

// plays holds the program to one step behind the other.
func plays(t *testing.T, what string, g api.Gate, steps []step) {
	t.Helper()
	for n, s := range steps {
		becomes(t, what+", step "+name(n), g, s.d, s.want)
		if s.d.call != "All" {
			g = s.want.g
		}
	}
}

// P13.1: the document's example.
func TestExample(t *testing.T) {
	five, six := api.Told{Val: 5}, api.Told{Val: 6}
	held := []api.Held{{Told: five, Span: 0}, {Told: six, Span: 1}}
	plays(t, "example", api.Gate{}, []step{
		{deed{"Tell", 0, five}, done{g: api.Gate{Held: held[:1]}}},
		{deed{"Tell", 1, six}, done{g: api.Gate{Held: held}}},
		{deed{call: "All"}, done{all: []api.Told{five, six}}},
		{deed{call: "Sure", span: 1}, done{g: api.Gate{Held: held[1:], Out: []api.Told{five}}}},
		{deed{call: "All"}, done{all: []api.Told{five, six}}},
		{deed{call: "Back", span: 1}, done{g: api.Gate{Out: []api.Told{five}}}},
		{deed{call: "All"}, done{all: []api.Told{five}}},
	})
	both := api.Gate{Held: held}
	becomes(t, "example", both, deed{call: "Back", span: 1}, done{g: api.Gate{Held: held[:1]}})
	becomes(t, "example", both, deed{call: "Sure", span: 0}, done{g: both})
	becomes(t, "example", both, deed{call: "Sure", span: 2}, done{g: api.Gate{Out: []api.Told{five, six}}})
	becomes(t, "example", both, deed{call: "Back", span: 0}, done{})
	becomes(t, "example", both, deed{call: "Back", span: 2}, done{g: both})
}

// P13.1: Tell, things in one interval and in several, some of which are the same; by hand.
func TestTell(t *testing.T) {
	list := []api.Held{hold(1, 0), hold(2, 0), hold(2, 0), hold(3, 4), hold(1, 4), hold(9, 5), {Told: api.Told{Core: -7}, Span: end}}
	g := api.Gate{Out: let(2)}
	for n, h := range list {
		want := api.Gate{Held: list[:n+1], Out: let(2)}
		becomes(t, "by hand, "+name(n), g, deed{"Tell", h.Span, h.Told}, done{g: want})
		g = want
	}
}

// P13.1: Tell till 64 are held, then one more, which is ErrFull, whatever was let out; and again, where something went.
func TestTellFull(t *testing.T) {
	for _, spans := range []int{0, 1, 1 << 30} {
		g := of(80)
		for n := range 64 {
			d := deed{"Tell", 3 + n*spans, told(n)}
			want := row(80, n+1, 3, spans)
			becomes(t, "to the full", g, d, done{g: want})
			g = d.does(g).g
			if !commit.Right(g) {
				t.Fatalf("%v isn't right", g)
			}
		}
		last := 3 + 63*spans
		stays(t, "one more", g, deed{"Tell", last, told(64)}, api.ErrFull)
		stays(t, "one more, far on", g, deed{"Tell", end, told(64)}, api.ErrFull)
		for _, d := range []deed{{call: "Sure", span: last + 1}, {call: "Back", span: last}} {
			then := d.asks(g).g
			becomes(t, "some go", g, d, done{g: then})
			want := turned(then, func(g *api.Gate) { g.Held = append(g.Held, hold(64, last)) })
			becomes(t, "one more, where some went", then, deed{"Tell", last, told(64)}, done{g: want})
		}
	}
}

// P13.1: Tell, in intervals as great as, less than and greater by one than the last one's, and where nothing is held.
func TestTellEdges(t *testing.T) {
	for about, g := range map[string]api.Gate{"usual": usual(), "one": of(1, 9), "63": turned(row(0, 63, 2, 0), func(g *api.Gate) { g.Held[62].Span = 9 })} {
		for _, span := range append([]int{-1, 0, 1, 2, 7, 8, 9, 10, 11, end - 1, end, end + 1}, far...) {
			d := deed{"Tell", span, told(50)}
			if span >= 9 && span <= end {
				becomes(t, about, g, d, done{g: turned(g, func(g *api.Gate) { g.Held = append(g.Held, hold(50, span)) })})
			} else {
				stays(t, about, g, d, api.ErrArg)
			}
		}
	}
	for _, out := range []int{0, 1, 100} {
		for _, span := range append([]int{-1, 0, 1, 5, end - 1, end, end + 1}, far...) {
			d := deed{"Tell", span, told(50)}
			if span >= 0 && span <= end {
				becomes(t, "nothing held", of(out), d, done{g: api.Gate{Held: []api.Held{hold(50, span)}, Out: let(out)}})
			} else {
				stays(t, "nothing held", of(out), d, api.ErrArg)
			}
		}
	}
	becomes(t, "at the end", of(0, end), deed{"Tell", end, told(1)}, done{g: of(0, end, end)})
	stays(t, "just ahead of the end", of(0, end), deed{"Tell", end - 1, told(1)}, api.ErrArg)
}

// firsts is how many of usual are of intervals below one, by hand.
func firsts() map[int]int {
	return map[int]int{0: 0, 1: 0, 2: 0, 3: 2, 4: 3, 6: 3, 7: 3, 8: 6, 9: 6, 10: 7, 1000: 7, end - 1: 7, end: 7}
}

// P13.1: Sure with nothing to go, some, and all; several of one interval go together, in order; by hand.
func TestSure(t *testing.T) {
	for span, n := range firsts() {
		g := usual()
		want := turned(g, func(g *api.Gate) {
			for _, h := range g.Held[:n] {
				g.Out = append(g.Out, h.Told)
			}
			g.Held = g.Held[n:]
		})
		becomes(t, "sure below "+name(span), g, deed{call: "Sure", span: span}, done{g: want})
	}
	becomes(t, "some, by hand", of(0, 1, 1, 2), deed{call: "Sure", span: 2}, done{g: api.Gate{Out: []api.Told{told(0), told(1)}, Held: []api.Held{hold(2, 2)}}})
	becomes(t, "behind what was let out", api.Gate{Out: []api.Told{told(5)}, Held: []api.Held{hold(4, 0), hold(3, 1)}}, deed{call: "Sure", span: end}, done{g: api.Gate{Out: []api.Told{told(5), told(4), told(3)}}})
	becomes(t, "of the end, never", of(1, end, end), deed{call: "Sure", span: end}, done{g: of(1, end, end)})
	for _, span := range []int{0, 5, end} {
		becomes(t, "nothing", api.Gate{}, deed{call: "Sure", span: span}, done{})
		becomes(t, "nothing held", of(4), deed{call: "Sure", span: span}, done{g: of(4)})
	}
}

// P13.1: Back to 0, to one between and to one behind all that is held; several of one interval are forgotten together; by hand.
func TestBack(t *testing.T) {
	for span, n := range firsts() {
		want := turned(usual(), func(g *api.Gate) { g.Held = g.Held[:n] })
		becomes(t, "back to "+name(span), usual(), deed{call: "Back", span: span}, done{g: want})
	}
	becomes(t, "some, by hand", of(2, 1, 2, 2), deed{call: "Back", span: 2}, done{g: of(2, 1)})
	becomes(t, "of the end", of(1, 5, end, end), deed{call: "Back", span: end}, done{g: of(1, 5)})
	for _, span := range []int{0, 5, end} {
		becomes(t, "nothing", api.Gate{}, deed{call: "Back", span: span}, done{})
		becomes(t, "nothing held", of(4), deed{call: "Back", span: span}, done{g: of(4)})
	}
}

// P13.1: Sure and Back of all numbers held, each of its own interval and all of one.
func TestAllNumbers(t *testing.T) {
	for many := range 65 {
		g := row(2, many, 10, 3)
		for n := range many + 1 {
			for _, span := range []int{8 + n*3, 9 + n*3, 10 + n*3} {
				var out []api.Told
				for i := range n {
					out = append(out, told(i))
				}
				want := turned(g, func(g *api.Gate) { g.Held, g.Out = g.Held[n:], append(g.Out, out...) })
				becomes(t, "each of its own", g, deed{call: "Sure", span: span}, done{g: want})
				becomes(t, "each of its own", g, deed{call: "Back", span: span}, done{g: turned(g, func(g *api.Gate) { g.Held = g.Held[:n] })})
			}
		}
		one := row(1, many, 10, 0)
		becomes(t, "all of one", one, deed{call: "Sure", span: 10}, done{g: one})
		becomes(t, "all of one", one, deed{call: "Sure", span: 11}, done{g: api.Gate{Out: all(one)}})
		becomes(t, "all of one", one, deed{call: "Back", span: 11}, done{g: one})
		becomes(t, "all of one", one, deed{call: "Back", span: 10}, done{g: of(1)})
	}
}

// P13.1: Sure twice, and with a lower interval behind a higher one, and telling behind it, in an earlier interval, too.
func TestSureAgain(t *testing.T) {
	left := api.Gate{Held: []api.Held{hold(2, 4), hold(3, 6)}, Out: []api.Told{told(0), told(1)}}
	two := turned(left, func(g *api.Gate) { g.Held = append(g.Held, hold(8, 6)) })
	none := api.Gate{Out: all(two)}
	early := turned(none, func(g *api.Gate) { g.Held = []api.Held{hold(9, 1)} })
	plays(t, "again", of(0, 1, 2, 4, 6), []step{
		{deed{call: "Sure", span: 4}, done{g: left}},
		{deed{call: "Sure", span: 4}, done{g: left}},
		{deed{call: "Sure", span: 2}, done{g: left}},
		{deed{call: "Sure", span: 0}, done{g: left}},
		{deed{"Tell", 5, told(8)}, done{g: left, err: api.ErrArg}},
		{deed{"Tell", 6, told(8)}, done{g: two}},
		{deed{call: "Sure", span: 7}, done{g: none}},
		{deed{call: "Sure", span: 7}, done{g: none}},
		{deed{call: "Sure", span: 3}, done{g: none}},
		{deed{"Tell", 1, told(9)}, done{g: early}},
		{deed{call: "Sure", span: 1}, done{g: early}},
		{deed{call: "Sure", span: 2}, done{g: api.Gate{Out: all(early)}}},
	})
}

// P13.1 and P13.2: Back, and telling behind it, in the interval gone back to, too; what was let out is not taken back.
func TestBackAgain(t *testing.T) {
	out := []api.Told{told(0), told(1)}
	plays(t, "back", of(0, 1, 2, 4, 4, 6), []step{
		{deed{call: "Sure", span: 3}, done{g: api.Gate{Out: out, Held: []api.Held{hold(2, 4), hold(3, 4), hold(4, 6)}}}},
		{deed{call: "Back", span: 5}, done{g: api.Gate{Out: out, Held: []api.Held{hold(2, 4), hold(3, 4)}}}},
		{deed{call: "Back", span: 5}, done{g: api.Gate{Out: out, Held: []api.Held{hold(2, 4), hold(3, 4)}}}},
		{deed{"Tell", 5, told(9)}, done{g: api.Gate{Out: out, Held: []api.Held{hold(2, 4), hold(3, 4), hold(9, 5)}}}},
		{deed{call: "Back", span: 4}, done{g: api.Gate{Out: out}}},
		{deed{"Tell", 4, told(8)}, done{g: api.Gate{Out: out, Held: []api.Held{hold(8, 4)}}}},
		{deed{call: "Back", span: 0}, done{g: api.Gate{Out: out}}},
		{deed{"Tell", 0, told(7)}, done{g: api.Gate{Out: out, Held: []api.Held{hold(7, 0)}}}},
		{deed{call: "Sure", span: 1}, done{g: api.Gate{Out: []api.Told{told(0), told(1), told(7)}}}},
		{deed{call: "Back", span: 0}, done{g: api.Gate{Out: []api.Told{told(0), told(1), told(7)}}}},
	})
}

// P13.1: All of nothing, of what was let out alone, of what is held alone, and of both; by hand, and of all gates.
func TestAll(t *testing.T) {
	for _, g := range []api.Gate{{}, {Held: []api.Held{}, Out: []api.Told{}}} {
		if got := commit.All(g); len(got) != 0 {
			t.Errorf("of nothing: %v", got)
		}
	}
	out, held := []api.Told{told(7), told(5)}, []api.Held{hold(6, 1), hold(7, 1), hold(2, 3)}
	becomes(t, "let out alone", api.Gate{Out: out}, deed{call: "All"}, done{all: out})
	becomes(t, "held alone", api.Gate{Held: held}, deed{call: "All"}, done{all: []api.Told{told(6), told(7), told(2)}})
	becomes(t, "both", api.Gate{Held: held, Out: out}, deed{call: "All"}, done{all: []api.Told{told(7), told(5), told(6), told(7), told(2)}})
	for about, g := range rights() {
		becomes(t, about, g, deed{call: "All"}, done{all: all(g)})
	}
	for about, g := range wrongs() {
		becomes(t, about, g, deed{call: "All"}, done{all: all(g)})
	}
}

// P13.1: each call with a gate that isn't right: ErrArg, and the gate as it is.
func TestWrongGates(t *testing.T) {
	for about, g := range wrongs() {
		for _, span := range []int{0, 1, 8, 9, end - 1, end, -1, end + 1, math.MaxInt, math.MinInt} {
			stays(t, about, g, deed{"Tell", span, told(1)}, api.ErrArg)
			stays(t, about, g, deed{call: "Sure", span: span}, api.ErrArg)
			stays(t, about, g, deed{call: "Back", span: span}, api.ErrArg)
		}
	}
}

// P13.1: each call with an interval that there isn't: ErrArg, and the gate as it is.
func TestWrongSpans(t *testing.T) {
	for about, g := range rights() {
		for _, span := range append([]int{-1, end + 1}, far...) {
			stays(t, about, g, deed{"Tell", span, told(1)}, api.ErrArg)
			stays(t, about, g, deed{call: "Sure", span: span}, api.ErrArg)
			stays(t, about, g, deed{call: "Back", span: span}, api.ErrArg)
		}
		for _, span := range []int{0, end} {
			for _, call := range []string{"Sure", "Back"} {
				if got := (deed{call: call, span: span}).does(g); got.err != api.OK {
					t.Errorf("%s: %s %d: %d", about, call, span, got.err)
				}
			}
		}
	}
}

// P13.1: which error comes first where more than one could be told.
func TestFirstError(t *testing.T) {
	full := row(2, 64, 10, 1)
	for _, c := range []struct {
		about string
		g     api.Gate
		span  int
		want  api.Errno
	}{
		{"full, the last one's interval", full, 73, api.ErrFull},
		{"full, a later one", full, 74, api.ErrFull},
		{"full, the last one there is", full, end, api.ErrFull},
		{"full, one less than the last one's", full, 72, api.ErrArg},
		{"full, the first one's", full, 10, api.ErrArg},
		{"full, 0", full, 0, api.ErrArg},
		{"full, -1", full, -1, api.ErrArg},
		{"full, behind the last one there is", full, end + 1, api.ErrArg},
		{"full, of one interval", row(0, 64, 4, 0), 4, api.ErrFull},
		{"full, of one interval, one less", row(0, 64, 4, 0), 3, api.ErrArg},
		{"full, of the beginning", row(0, 64, 0, 0), 0, api.ErrFull},
		{"full, of the end", row(0, 64, end, 0), end, api.ErrFull},
		{"full, of the end, one less", row(0, 64, end, 0), end - 1, api.ErrArg},
		{"full, not right: the order", turned(full, func(g *api.Gate) { g.Held[5].Span = 9 }), 73, api.ErrArg},
		{"full, not right: a Span of -1", turned(full, func(g *api.Gate) { g.Held[0].Span = -1 }), 73, api.ErrArg},
		{"full, not right: a Span behind the end", turned(full, func(g *api.Gate) { g.Held[63].Span = end + 1 }), end, api.ErrArg},
		{"65", row(2, 65, 10, 1), 74, api.ErrArg},
		{"63, an earlier one", row(2, 63, 10, 1), 71, api.ErrArg},
	} {
		stays(t, c.about, c.g, deed{"Tell", c.span, told(1)}, c.want)
	}
}

// P13.1: each call, at all edges at once, is what the document asks.
func TestAllCalls(t *testing.T) {
	for about, g := range rights() {
		for _, d := range deeds(g) {
			becomes(t, about, g, d, d.asks(g))
		}
	}
	for about, g := range wrongs() {
		becomes(t, about, g, deed{"Tell", 9, told(2)}, deed{"Tell", 9, told(2)}.asks(g))
	}
}

// P13.1: what can be gone on with is right, whatever was done.
func TestStaysRight(t *testing.T) {
	for about, g := range rights() {
		for _, d := range deeds(g) {
			if d.call == "All" {
				continue
			}
			if got := d.does(g); !commit.Right(got.g) {
				t.Errorf("%s: %+v makes %v, that isn't right", about, d, got.g)
			}
		}
	}
}
