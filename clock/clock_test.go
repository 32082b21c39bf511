package clock_test

import (
	"fmt"
	"math"
	"slices"
	"testing"

	"backstay/api"
	"backstay/clock"
)

// end is the last interval, and the last time, there is.
const end = 1 << 40

// most is the longest that a mark may have to wait.
const most = 1 << 20

// far are numbers of neither intervals nor times nor waits, some of which a narrower integer would take for one.
var far = []int{-2, -8, -256, -1 << 20, -1 << 32, -1 << 40, end + 2, end + 256, end + 1<<32, 1 << 41, math.MaxInt, math.MaxInt - 1, math.MinInt, math.MinInt + 1}

// mark is a checkpoint.
func mark(span, when int, cores []api.Core) api.Mark {
	return api.Mark{Span: span, When: when, Cores: cores}
}

// cores are so many cores, other ones for each n.
func cores(n, many int) []api.Core {
	var all []api.Core
	for i := range many {
		c := api.Core{PC: n*5 + i, Halted: (n+i)%2 == 1}
		for r := range c.Regs {
			c.Regs[r] = uint32(n*64+i*8+r+1) * 0x01020305
		}
		all = append(all, c)
	}
	return all
}

// of is a clock of that wait, with marks of these intervals and times, a pair each; each with other cores, and another number of these.
func of(wait int, pairs ...int) api.Clock {
	c := api.Clock{Wait: wait}
	for n := 0; n < len(pairs); n += 2 {
		c.Marks = append(c.Marks, mark(pairs[n], pairs[n+1], cores(n+1, (n/2+2)%5)))
	}
	return c
}

// row is a clock of that wait, with so many marks, from that interval and that time on, so far apart.
func row(wait, many, span, spans, when, whens int) api.Clock {
	var pairs []int
	for n := range many {
		pairs = append(pairs, span+n*spans, when+n*whens)
	}
	return of(wait, pairs...)
}

// copiedMark is a mark as m is, that shares no memory with it.
func copiedMark(m api.Mark) api.Mark {
	return mark(m.Span, m.When, slices.Clone(m.Cores))
}

// copied is a clock as c is, that shares no memory with it.
func copied(c api.Clock) api.Clock {
	own := api.Clock{Wait: c.Wait}
	for _, m := range c.Marks {
		own.Marks = append(own.Marks, copiedMark(m))
	}
	return own
}

// turned is the clock c with something of it turned.
func turned(c api.Clock, by func(c *api.Clock)) api.Clock {
	c = copied(c)
	by(&c)
	return c
}

// alikeMarks answers whether a and b are; a list is nil or empty alike.
func alikeMarks(a, b api.Mark) bool {
	return a.Span == b.Span && a.When == b.When && slices.Equal(a.Cores, b.Cores)
}

// alike answers whether a and b are; a list is nil or empty alike.
func alike(a, b api.Clock) bool {
	return a.Wait == b.Wait && slices.EqualFunc(a.Marks, b.Marks, alikeMarks)
}

// deed is a call: which, and with what. New's wait is its span.
type deed struct {
	call      string
	span, now int
	cores     []api.Core
}

// done is what became of it.
type done struct {
	c   api.Clock
	m   api.Mark
	err api.Errno
}

// same answers whether a and b are.
func (a done) same(b done) bool {
	return alike(a.c, b.c) && alikeMarks(a.m, b.m) && a.err == b.err
}

// does is what the program makes of d.
func (d deed) does(c api.Clock) done {
	var got done
	switch d.call {
	case "New":
		got.c, got.err = clock.New(d.span, d.cores)
	case "Tick":
		got.c, got.err = clock.Tick(c, d.span, d.now, d.cores)
	case "Sure":
		got.m, got.err = clock.Sure(c, d.now)
	case "Keep":
		got.c, got.err = clock.Keep(c, d.now)
	case "Back":
		got.c, got.m, got.err = clock.Back(c, d.now)
	}
	return got
}

// right answers whether the document takes c for right.
func right(c api.Clock) bool {
	if len(c.Marks) < 1 || len(c.Marks) > 8 || c.Wait < 1 || c.Wait > most {
		return false
	}
	for n, m := range c.Marks {
		if m.Span < 0 || m.Span > end || m.When < 0 || m.When > end || len(m.Cores) > 4 {
			return false
		}
		if n > 0 && (m.Span <= c.Marks[n-1].Span || m.When <= c.Marks[n-1].When) {
			return false
		}
	}
	return true
}

// isSure answers whether the mark at the place n of the clock c, that is right, is sure at the time now.
func isSure(c api.Clock, n, now int) bool {
	return n == 0 || now-c.Wait >= c.Marks[n].When
}

// asks is what the document asks of d, told without the program.
func (d deed) asks(c api.Clock) done {
	now := copied(c)
	if !right(c) || d.now < 0 || d.now > end {
		return d.fails(c, api.ErrArg)
	}
	if d.call == "Tick" {
		now.Marks = append(now.Marks, mark(d.span, d.now, slices.Clone(d.cores)))
		if len(c.Marks) == 8 {
			return d.fails(c, api.ErrFull)
		}
		if !right(now) {
			return d.fails(c, api.ErrArg)
		}
		return done{c: now}
	}
	var sure int
	for n := range c.Marks {
		if isSure(c, n, d.now) {
			sure = n
		}
	}
	switch d.call {
	case "Keep":
		return done{c: api.Clock{Wait: c.Wait, Marks: now.Marks[sure:]}}
	case "Back":
		return done{c: api.Clock{Wait: c.Wait, Marks: now.Marks[sure : sure+1]}, m: now.Marks[sure]}
	}
	return done{m: now.Marks[sure]}
}

// fails is d with that error: the clock as it is, where it answers one.
func (d deed) fails(c api.Clock, err api.Errno) done {
	if d.call == "Sure" {
		return done{err: err}
	}
	return done{c: copied(c), err: err}
}

// becomes holds the program to making want of d.
func becomes(t *testing.T, what string, c api.Clock, d deed, want done) {
	t.Helper()
	if got := d.does(c); !got.same(want) {
		t.Errorf("%s: %+v of %v\n= %+v\nwant %+v", what, d, c, got, want)
	}
}

// stays holds the program to leaving the clock as it is, with that error.
func stays(t *testing.T, what string, c api.Clock, d deed, err api.Errno) {
	t.Helper()
	becomes(t, what, c, d, d.fails(c, err))
}

// example is the document's: wait 10, marks at 0 and 5.
func example() api.Clock {
	return of(10, 0, 0, 1, 5)
}

// usual is a clock of four marks, the first one of which isn't that of the beginning.
func usual() api.Clock {
	return of(10, 2, 5, 3, 10, 7, 31, 9, 32)
}

// wild are cores that no program has.
func wild() []api.Core {
	return []api.Core{{PC: -1}, {PC: math.MaxInt, Halted: true}, {PC: math.MinInt, Regs: [api.MaxRegs]uint32{0, math.MaxUint32}}}
}

// rights are clocks that may be.
func rights() map[string]api.Clock {
	one := cores(3, 3)
	return map[string]api.Clock{
		"the document's example":           example(),
		"usual":                            usual(),
		"one mark, of the beginning":       of(1, 0, 0),
		"one mark, of the end":             of(1, end, end),
		"one mark, a late interval":        of(5, end, 0),
		"one mark, a late time":            of(5, 0, end),
		"one mark in between":              of(9, 7, 70),
		"one mark, the longest wait":       of(most, 0, 0),
		"two marks, the longest wait":      of(most, 0, 0, 1, 1),
		"two marks, one less to wait":      of(most-1, 0, 0, 1, most),
		"two marks, as far as there is":    of(1, 0, 0, end, end),
		"two marks, at the end":            of(1, end-1, end-1, end, end),
		"seven marks":                      row(3, 7, 0, 1, 0, 1),
		"eight marks":                      row(3, 8, 0, 1, 0, 1),
		"eight marks, a wait of 1":         row(1, 8, 4, 3, 9, 2),
		"eight marks, at the end":          row(2, 8, end-7, 1, end-7, 1),
		"eight marks, the longest wait":    row(most, 8, 1, 1, 5, most),
		"eight marks, a longer wait":       row(most, 8, 1, 1, 5, 1<<18),
		"seven marks, at the end":          row(2, 7, end-6, 1, end-6, 1),
		"seven marks, 2^32 apart":          row(2, 7, 0, 1<<32, 5, 1<<32),
		"eight marks, 256 apart":           row(256, 8, 1, 256, 3, 256),
		"three marks, intervals far apart": of(4, 0, 0, 1<<32, 1, 1<<33, 2),
		"three marks, times far apart":     of(4, 0, 0, 1, 1<<32, 2, 1<<33),
		"no cores":                         {Wait: 2, Marks: []api.Mark{mark(0, 0, nil), mark(1, 1, []api.Core{}), mark(2, 2, nil)}},
		"four cores each":                  {Wait: 2, Marks: []api.Mark{mark(0, 0, cores(1, 4)), mark(1, 1, cores(2, 4)), mark(2, 2, cores(3, 4))}},
		"cores that no program has":        {Wait: 2, Marks: []api.Mark{mark(0, 0, cores(1, 3)), mark(1, 1, wild()), mark(2, 2, cores(3, 3))}},
		"the same cores each, in one list": {Wait: 2, Marks: []api.Mark{mark(0, 0, one), mark(1, 1, one), mark(2, 2, one[:2]), mark(3, 8, one)}},
	}
}

// name is n as a name has it.
func name(n int) string {
	return fmt.Sprint(n)
}

// wrongs are clocks that may not be.
func wrongs() map[string]api.Clock {
	c := map[string]api.Clock{
		"nothing":               {},
		"no marks":              {Wait: 1},
		"an empty list":         {Wait: 5, Marks: []api.Mark{}},
		"nine marks":            row(3, 9, 0, 1, 0, 1),
		"nine marks, far apart": row(most, 9, 5, 256, 9, 1<<21),
		"sixteen marks":         row(3, 16, 0, 2, 0, 3),
		"257 marks":             row(3, 257, 0, 1, 0, 1),
		"264 marks":             row(3, 264, 0, 1, 0, 1),
	}
	for about, right := range rights() {
		for _, wait := range append([]int{0, -1, most + 1, most + 2, 1 << 21, 1<<32 + 1, end}, far...) {
			c[about+": Wait "+name(wait)] = turned(right, func(c *api.Clock) { c.Wait = wait })
		}
		for n := range right.Marks {
			for how, by := range wrongOnes() {
				c[about+": "+how+" at the place "+name(n)] = turned(right, func(c *api.Clock) { by(&c.Marks[n]) })
			}
			if n == 0 {
				continue
			}
			for how, by := range wrongTwos() {
				c[about+": "+how+" at the place "+name(n)] = turned(right, func(c *api.Clock) { by(&c.Marks[n-1], &c.Marks[n]) })
			}
		}
		if len(right.Marks) > 1 {
			c[about+": all the other way round"] = turned(right, func(c *api.Clock) { slices.Reverse(c.Marks) })
		}
	}
	return c
}

// wrongOnes make one of a right clock's marks a wrong one.
func wrongOnes() map[string]func(m *api.Mark) {
	all := map[string]func(m *api.Mark){}
	for _, n := range append([]int{-1, end + 1}, far...) {
		all["Span "+name(n)] = func(m *api.Mark) { m.Span = n }
		all["When "+name(n)] = func(m *api.Mark) { m.When = n }
	}
	for _, n := range []int{5, 6, 8, 256, 257} {
		all[name(n)+" cores"] = func(m *api.Mark) { m.Cores = cores(1, n) }
	}
	return all
}

// wrongTwos make two of a right clock's marks, one behind the other, not rise.
func wrongTwos() map[string]func(a, b *api.Mark) {
	return map[string]func(a, b *api.Mark){
		"Span as the one's ahead":     func(a, b *api.Mark) { b.Span = a.Span },
		"When as the one's ahead":     func(a, b *api.Mark) { b.When = a.When },
		"Span one less":               func(a, b *api.Mark) { b.Span = a.Span - 1 },
		"When one less":               func(a, b *api.Mark) { b.When = a.When - 1 },
		"Span 0":                      func(a, b *api.Mark) { b.Span = 0 },
		"When 0":                      func(a, b *api.Mark) { b.When = 0 },
		"Spans that changed places":   func(a, b *api.Mark) { a.Span, b.Span = b.Span, a.Span },
		"Whens that changed places":   func(a, b *api.Mark) { a.When, b.When = b.When, a.When },
		"marks that changed places":   func(a, b *api.Mark) { *a, *b = *b, *a },
		"the one ahead, twice":        func(a, b *api.Mark) { *b = *a },
		"the one ahead's Span behind": func(a, b *api.Mark) { a.Span = b.Span + 1 },
		"the one ahead's When behind": func(a, b *api.Mark) { a.When = b.When + 1 },
	}
}

// times are such as c's marks are sure at, or just not yet, and edges; such as there are not, too.
func times(c api.Clock) []int {
	all := append([]int{-1, 0, 1, end - 1, end, end + 1}, far...)
	for n, m := range c.Marks {
		if n > 8 {
			break
		}
		all = append(all, m.When-1, m.When, m.When+1, m.When+c.Wait-1, m.When+c.Wait, m.When+c.Wait+1)
	}
	slices.Sort(all)
	return slices.Compact(all)
}

// spans are intervals that a mark behind c's may have, or just not, and edges; such as there are not, too.
func spans(c api.Clock) []int {
	all := []int{-1, 0, end, end + 1, math.MaxInt, math.MinInt}
	if len(c.Marks) > 0 {
		span := c.Marks[len(c.Marks)-1].Span
		all = append(all, span-1, span, span+1, span+256)
	}
	slices.Sort(all)
	return slices.Compact(all)
}

// deeds are all calls of c, at these and at other times.
func deeds(c api.Clock) []deed {
	var all []deed
	for _, now := range times(c) {
		for _, call := range []string{"Sure", "Keep", "Back"} {
			all = append(all, deed{call: call, now: now})
		}
		for _, span := range spans(c) {
			for _, many := range []int{0, 1, 4, 5} {
				all = append(all, deed{"Tick", span, now, cores(40, many)})
			}
		}
	}
	return all
}

// P12.1: Right, of clocks that may be.
func TestRight(t *testing.T) {
	for about, c := range rights() {
		if !right(c) || !clock.Right(c) {
			t.Errorf("%s: %v isn't right", about, c)
		}
	}
}

// P12.1: Right, of clocks that may not be.
func TestNotRight(t *testing.T) {
	for about, c := range wrongs() {
		if right(c) || clock.Right(c) {
			t.Errorf("%s: %v is right", about, c)
		}
	}
}

// P12.1: Right, of each number of marks, each wait, and each number of cores near the edges.
func TestRightEdges(t *testing.T) {
	for many := range 20 {
		if got := clock.Right(row(5, many, 0, 1, 0, 1)); got != (many >= 1 && many <= 8) {
			t.Errorf("%d marks: %t", many, got)
		}
		for place := range 8 {
			c := turned(row(5, 8, 0, 1, 0, 1), func(c *api.Clock) { c.Marks[place].Cores = cores(9, many) })
			if got := clock.Right(c); got != (many <= 4) {
				t.Errorf("%d cores at the place %d: %t", many, place, got)
			}
		}
	}
	for _, wait := range []int{-1, 0, 1, 2, most - 1, most, most + 1, most + 2} {
		if got := clock.Right(of(wait, 0, 0)); got != (wait >= 1 && wait <= most) {
			t.Errorf("Wait %d: %t", wait, got)
		}
	}
	for _, n := range []int{-1, 0, 1, end - 1, end, end + 1} {
		if got := clock.Right(of(1, n, 0)); got != (n >= 0 && n <= end) {
			t.Errorf("Span %d: %t", n, got)
		}
		if got := clock.Right(of(1, 0, n)); got != (n >= 0 && n <= end) {
			t.Errorf("When %d: %t", n, got)
		}
	}
}

// P12.1: Right, of two marks, by all intervals and times of two that are near one another.
func TestRightTwo(t *testing.T) {
	for a := range 256 {
		one, two, when, then := a%4, a/4%4, a/16%4, a/64
		if got := clock.Right(of(1, one, when, two, then)); got != (two > one && then > when) {
			t.Errorf("Spans %d and %d, Whens %d and %d: %t", one, two, when, then, got)
		}
	}
}

// P12.1: New, of each wait and each number of cores near the edges.
func TestNew(t *testing.T) {
	for _, wait := range append([]int{-1, 0, 1, 2, 10, 255, 256, 65536, most - 1, most, most + 1, 1 << 21, 1 << 32, 1<<32 + 1, end}, far...) {
		for _, all := range [][]api.Core{nil, {}, cores(1, 1), cores(2, 2), cores(3, 3), cores(4, 4), wild(), cores(5, 5), cores(6, 6), cores(7, 256), cores(8, 257)} {
			d := deed{call: "New", span: wait, cores: all}
			want := done{c: api.Clock{Wait: wait, Marks: []api.Mark{mark(0, 0, all)}}}
			if wait < 1 || wait > most || len(all) > 4 {
				want = done{err: api.ErrArg}
			}
			becomes(t, "new", api.Clock{}, d, want)
			if got := d.does(api.Clock{}); got.err == api.OK && !clock.Right(got.c) {
				t.Errorf("New(%d, %d cores) = %v isn't right", wait, len(all), got.c)
			}
		}
	}
}

// step is a deed, and what the clock is behind it; beside Sure, as it is.
type step struct {
	d    deed
	want done
}

// plays holds the program to one step behind the other.
func plays(t *testing.T, what string, c api.Clock, steps []step) {
	t.Helper()
	for n, s := range steps {
		becomes(t, what+", step "+name(n), c, s.d, s.want)
		if s.d.call != "Sure" {
			c = s.want.c
		}
	}
}

// P12.1 and P12.2: the document's example, and each time near it.
func TestExample(t *testing.T) {
	one := cores(1, 2)
	c, err := clock.New(10, one)
	if err != api.OK {
		t.Fatal(err)
	}
	c, err = clock.Tick(c, 1, 5, one)
	if err != api.OK || !alike(c, api.Clock{Wait: 10, Marks: []api.Mark{mark(0, 0, one), mark(1, 5, one)}}) {
		t.Fatal(c, err)
	}
	for now := range 40 {
		want := mark(0, 0, one)
		if now >= 15 {
			want = mark(1, 5, one)
		}
		becomes(t, "example", c, deed{call: "Sure", now: now}, done{m: want})
	}
}

// P12.1: Tick, marks that come at rising times, by hand.
func TestTick(t *testing.T) {
	a, b, d := cores(1, 2), cores(2, 2), cores(3, 1)
	plays(t, "by hand", api.Clock{}, []step{
		{deed{"New", 7, 0, a}, done{c: api.Clock{Wait: 7, Marks: []api.Mark{mark(0, 0, a)}}}},
		{deed{"Tick", 1, 3, b}, done{c: api.Clock{Wait: 7, Marks: []api.Mark{mark(0, 0, a), mark(1, 3, b)}}}},
		{deed{"Tick", 2, 4, d}, done{c: api.Clock{Wait: 7, Marks: []api.Mark{mark(0, 0, a), mark(1, 3, b), mark(2, 4, d)}}}},
		{deed{"Tick", 9, 90, nil}, done{c: api.Clock{Wait: 7, Marks: []api.Mark{mark(0, 0, a), mark(1, 3, b), mark(2, 4, d), mark(9, 90, nil)}}}},
	})
}

// P12.1: Tick till there are 8, then one more, which is ErrFull, though it might be.
func TestTickFull(t *testing.T) {
	c, err := clock.New(4, cores(0, 4))
	if err != api.OK {
		t.Fatal(err)
	}
	want := api.Clock{Wait: 4, Marks: []api.Mark{mark(0, 0, cores(0, 4))}}
	for n := 1; n < 8; n++ {
		d := deed{"Tick", n * 3, n * 5, cores(n, n%5)}
		want.Marks = append(want.Marks, mark(n*3, n*5, cores(n, n%5)))
		becomes(t, "to the full", c, d, done{c: want})
		c = d.does(c).c
		if !clock.Right(c) {
			t.Fatalf("%v isn't right", c)
		}
	}
	stays(t, "one more", c, deed{"Tick", 24, 40, cores(8, 1)}, api.ErrFull)
	stays(t, "one more, far on", c, deed{"Tick", end, end, nil}, api.ErrFull)
	kept, err := clock.Keep(c, 9)
	if err != api.OK || len(kept.Marks) != 7 {
		t.Fatal(kept, err)
	}
	want.Marks = append(want.Marks[1:], mark(24, 40, cores(8, 1)))
	becomes(t, "one more, where one went", kept, deed{"Tick", 24, 40, cores(8, 1)}, done{c: want})
}

// P12.1: Tick, at intervals and times as great as, less than and greater by one than the last mark's.
func TestTickEdges(t *testing.T) {
	c := of(10, 2, 5, 6, 20)
	more := func(span, now int) api.Clock {
		return turned(c, func(c *api.Clock) { c.Marks = append(c.Marks, mark(span, now, cores(9, 3))) })
	}
	for _, span := range append([]int{-1, 0, 2, 3, 5, 6, 7, 8, end - 1, end, end + 1}, far...) {
		for _, now := range append([]int{-1, 0, 5, 6, 19, 20, 21, 22, end - 1, end, end + 1}, far...) {
			d := deed{"Tick", span, now, cores(9, 3)}
			if span > 6 && span <= end && now > 20 && now <= end {
				becomes(t, "edges", c, d, done{c: more(span, now)})
			} else {
				stays(t, "edges", c, d, api.ErrArg)
			}
		}
	}
	late := of(10, 2, 5, end, end)
	for _, n := range []int{end - 1, end, end + 1, math.MaxInt, math.MinInt} {
		stays(t, "behind the end", late, deed{"Tick", n, n, nil}, api.ErrArg)
	}
	for many := range 10 {
		d := deed{"Tick", 7, 21, cores(9, many)}
		if many <= 4 {
			becomes(t, "cores", c, d, done{c: turned(c, func(c *api.Clock) { c.Marks = append(c.Marks, mark(7, 21, cores(9, many))) })})
		} else {
			stays(t, "cores", c, d, api.ErrArg)
		}
	}
	becomes(t, "cores that no program has", c, deed{"Tick", 7, 21, wild()}, done{c: turned(c, func(c *api.Clock) { c.Marks = append(c.Marks, mark(7, 21, wild())) })})
}

// surely is which place of usual is sure at a time, by hand.
func surely() map[int]int {
	return map[int]int{0: 0, 1: 0, 4: 0, 5: 0, 14: 0, 15: 0, 19: 0, 20: 1, 21: 1, 40: 1, 41: 2, 42: 3, 43: 3, 1000: 3, end - 1: 3, end: 3}
}

// P12.2: Sure, Keep and Back, at times at which the first one alone is sure, one between, and all of them, and at one ahead of all; by hand.
func TestAtTimes(t *testing.T) {
	for now, n := range surely() {
		c := usual()
		what := "at " + name(now)
		becomes(t, what, c, deed{call: "Sure", now: now}, done{m: c.Marks[n]})
		becomes(t, what, c, deed{call: "Keep", now: now}, done{c: turned(c, func(c *api.Clock) { c.Marks = c.Marks[n:] })})
		becomes(t, what, c, deed{call: "Back", now: now}, done{c: turned(c, func(c *api.Clock) { c.Marks = c.Marks[n : n+1] }), m: c.Marks[n]})
	}
}

// P12.2: just the wait less one, the wait, and the wait and one behind each mark's When, of the least and the greatest wait, too.
func TestJustSure(t *testing.T) {
	for _, wait := range []int{1, 2, 10, 256, most - 1, most} {
		for _, whens := range []int{1, 2, wait, wait + 1, most, 1 << 32} {
			c := row(wait, 8, 3, 2, 7, whens)
			for n, m := range c.Marks {
				if whens > 1 && n > 0 {
					becomes(t, "not yet", c, deed{call: "Sure", now: m.When + wait - 1}, done{m: c.Marks[n-1]})
				}
				becomes(t, "just", c, deed{call: "Sure", now: m.When + wait}, done{m: m})
				if whens > 1 {
					becomes(t, "one more", c, deed{call: "Sure", now: m.When + wait + 1}, done{m: m})
				}
			}
		}
	}
	late := of(most, end-most-1, end-most-1, end-most, end-most, end, end)
	becomes(t, "at the end", late, deed{call: "Sure", now: end}, done{m: late.Marks[1]})
	becomes(t, "just ahead of the end", late, deed{call: "Sure", now: end - 1}, done{m: late.Marks[0]})
}

// P12.2: Keep with nothing to go, some, and all but one; twice is as once.
func TestKeep(t *testing.T) {
	for about, c := range rights() {
		for _, now := range times(c) {
			once, err := clock.Keep(c, now)
			if err != api.OK {
				continue
			}
			becomes(t, about+", twice", once, deed{call: "Keep", now: now}, done{c: once})
			becomes(t, about+", what is sure stays", once, deed{call: "Sure", now: now}, deed{call: "Sure", now: now}.asks(c))
			if !clock.Right(once) || len(once.Marks) == 0 || !alikeMarks(once.Marks[len(once.Marks)-1], c.Marks[len(c.Marks)-1]) {
				t.Errorf("%s: kept at %d, of %v is left %v", about, now, c, once)
			}
		}
	}
	all := row(10, 8, 0, 1, 0, 10)
	for n := range 8 {
		becomes(t, "so many go", all, deed{call: "Keep", now: 10 + n*10}, done{c: turned(all, func(c *api.Clock) { c.Marks = c.Marks[n:] })})
		becomes(t, "one less goes", all, deed{call: "Keep", now: 9 + n*10}, done{c: turned(all, func(c *api.Clock) { c.Marks = c.Marks[max(0, n-1):] })})
	}
}

// P12.2: Back to the last one, to one between and to the first one, and marks that come behind it; it is sure for ever.
func TestBack(t *testing.T) {
	for n, now := range []int{0, 20, 41, 42} {
		c := usual()
		m := c.Marks[n]
		one := api.Clock{Wait: 10, Marks: []api.Mark{m}}
		steps := []step{{deed{call: "Back", now: now}, done{c: one, m: m}}}
		for _, then := range []int{0, m.When - 1, m.When, m.When + 9, m.When + 10, now, now + 1, 1000, end} {
			steps = append(steps,
				step{deed{call: "Sure", now: then}, done{m: m}},
				step{deed{call: "Keep", now: then}, done{c: one}},
				step{deed{call: "Back", now: then}, done{c: one, m: m}})
		}
		two := turned(one, func(c *api.Clock) { c.Marks = append(c.Marks, mark(m.Span+1, now+50, cores(30, 2))) })
		steps = append(steps,
			step{deed{"Tick", m.Span, now + 50, cores(30, 2)}, done{c: one, err: api.ErrArg}},
			step{deed{"Tick", m.Span + 1, m.When, cores(30, 2)}, done{c: one, err: api.ErrArg}},
			step{deed{"Tick", m.Span + 1, now + 50, cores(30, 2)}, done{c: two}},
			step{deed{call: "Sure", now: now + 50}, done{m: m}},
			step{deed{call: "Sure", now: now + 59}, done{m: m}},
			step{deed{call: "Sure", now: now + 60}, done{m: two.Marks[1]}},
			step{deed{call: "Back", now: now + 59}, done{c: one, m: m}},
			step{deed{"Tick", m.Span + 1, now + 50, cores(30, 2)}, done{c: two}},
			step{deed{call: "Back", now: now + 60}, done{c: api.Clock{Wait: 10, Marks: two.Marks[1:]}, m: two.Marks[1]}})
		plays(t, "back to the place "+name(n), c, steps)
	}
}

// P12.1 and P12.2: each call with a clock that isn't right: ErrArg, and the clock as it is.
func TestWrongClocks(t *testing.T) {
	for about, c := range wrongs() {
		all := []int{0, 20, end, -1, end + 1}
		if len(c.Marks) > 0 {
			last := c.Marks[len(c.Marks)-1]
			all = append(all, last.When+1, last.When+c.Wait)
		}
		for _, now := range all {
			for _, call := range []string{"Sure", "Keep", "Back"} {
				stays(t, about, c, deed{call: call, now: now}, api.ErrArg)
			}
			for _, span := range spans(c) {
				stays(t, about, c, deed{"Tick", span, now, cores(40, 2)}, api.ErrArg)
			}
		}
	}
}

// P12.1 and P12.2: each call at a time that there isn't: ErrArg, and the clock as it is; New isn't asked for a time.
func TestWrongTimes(t *testing.T) {
	for about, c := range rights() {
		for _, now := range append([]int{-1, end + 1}, far...) {
			for _, call := range []string{"Sure", "Keep", "Back"} {
				stays(t, about, c, deed{call: call, now: now}, api.ErrArg)
			}
			stays(t, about, c, deed{"Tick", c.Marks[len(c.Marks)-1].Span + 1, now, cores(40, 2)}, api.ErrArg)
		}
		for _, now := range []int{0, end} {
			for _, call := range []string{"Sure", "Keep", "Back"} {
				if got := (deed{call: call, now: now}).does(c); got.err != api.OK {
					t.Errorf("%s: %s at %d: %d", about, call, now, got.err)
				}
			}
		}
	}
}

// P12.1: which error comes first where more than one could be told.
func TestFirstError(t *testing.T) {
	full := row(3, 8, 0, 1, 0, 1)
	turn := func(by func(c *api.Clock)) api.Clock { return turned(full, by) }
	for _, c := range []struct {
		about string
		c     api.Clock
		d     deed
		want  api.Errno
	}{
		{"full", full, deed{"Tick", 8, 8, cores(1, 4)}, api.ErrFull},
		{"full, a Span as the last one's", full, deed{"Tick", 7, 8, cores(1, 4)}, api.ErrFull},
		{"full, Span -1", full, deed{"Tick", -1, 8, cores(1, 4)}, api.ErrFull},
		{"full, Span far above", full, deed{"Tick", end + 1, 8, cores(1, 4)}, api.ErrFull},
		{"full, the time of the last one", full, deed{"Tick", 8, 7, cores(1, 4)}, api.ErrFull},
		{"full, the time 0", full, deed{"Tick", 8, 0, cores(1, 4)}, api.ErrFull},
		{"full, five cores", full, deed{"Tick", 8, 8, cores(1, 5)}, api.ErrFull},
		{"full, all of these", full, deed{"Tick", -1, 0, cores(1, 5)}, api.ErrFull},
		{"full, the time -1", full, deed{"Tick", 8, -1, cores(1, 4)}, api.ErrArg},
		{"full, the time behind the end", full, deed{"Tick", 8, end + 1, cores(1, 4)}, api.ErrArg},
		{"full, not right: Wait", turn(func(c *api.Clock) { c.Wait = 0 }), deed{"Tick", 8, 8, nil}, api.ErrArg},
		{"full, not right: a Span", turn(func(c *api.Clock) { c.Marks[3].Span = 4 }), deed{"Tick", 8, 8, nil}, api.ErrArg},
		{"full, not right: a When", turn(func(c *api.Clock) { c.Marks[7].When = 6 }), deed{"Tick", 8, 8, nil}, api.ErrArg},
		{"full, not right: cores", turn(func(c *api.Clock) { c.Marks[0].Cores = cores(1, 5) }), deed{"Tick", 8, 8, nil}, api.ErrArg},
		{"nine", row(3, 9, 0, 1, 0, 1), deed{"Tick", 9, 9, nil}, api.ErrArg},
		{"seven, five cores", row(3, 7, 0, 1, 0, 1), deed{"Tick", 8, 8, cores(1, 5)}, api.ErrArg},
		{"seven, a Span as the last one's", row(3, 7, 0, 1, 0, 1), deed{"Tick", 6, 8, nil}, api.ErrArg},
	} {
		stays(t, c.about, c.c, c.d, c.want)
	}
}

// P12.1 and P12.2: each call, at all edges at once, is what the document asks.
func TestAllCalls(t *testing.T) {
	for about, c := range rights() {
		for _, d := range deeds(c) {
			becomes(t, about, c, d, d.asks(c))
		}
	}
}
