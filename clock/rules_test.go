package clock_test

import (
	"slices"
	"testing"

	"backstay/api"
	"backstay/clock"
)

// some are clocks that may be and such as may not, few enough to look at each list of each answer.
func some() map[string]api.Clock {
	c := rights()
	wrong := wrongs()
	for _, about := range []string{"nothing", "nine marks", "257 marks", "usual: Wait 0", "usual: Span -1 at the place 0", "usual: 5 cores at the place 1", "usual: 257 cores at the place 3", "usual: the one ahead, twice at the place 2", "usual: all the other way round"} {
		one, is := wrong[about]
		if !is {
			panic("no such wrong clock: " + about)
		}
		c[about] = one
	}
	return c
}

// few are calls of c: each at a time at which the first mark is sure, one at which all are, and one that there isn't; Tick where it may and where it may not.
func few(c api.Clock) []deed {
	var all []deed
	span, when := 0, 0
	if len(c.Marks) > 0 {
		last := c.Marks[len(c.Marks)-1]
		span, when = last.Span, last.When
	}
	for _, now := range []int{0, when, when + 1, when + c.Wait, when + c.Wait - 1, end, -1} {
		for _, call := range []string{"Sure", "Keep", "Back"} {
			all = append(all, deed{call: call, now: now})
		}
		all = append(all, deed{"Tick", span + 1, now, cores(40, 3)}, deed{"Tick", span, now, cores(41, 4)}, deed{"Tick", span + 1, now, cores(42, 5)})
	}
	return all
}

// roomy is l with spare room behind it, in which something stands.
func roomy[T any](l []T, more T) []T {
	return append(slices.Clone(l), more, more, more)[:len(l)]
}

// roomyClock is c with spare room behind each list.
func roomyClock(c api.Clock) api.Clock {
	own := api.Clock{Wait: c.Wait}
	for _, m := range c.Marks {
		own.Marks = append(own.Marks, mark(m.Span, m.When, roomy(m.Cores, api.Core{PC: 98})))
	}
	own.Marks = roomy(own.Marks, mark(99, 99, roomy(cores(50, 1), api.Core{PC: 97})))
	return own
}

// roomyDeed is d with spare room behind its cores.
func roomyDeed(d deed) deed {
	d.cores = roomy(d.cores, api.Core{PC: 96})
	return d
}

// wholeMark is m with all its spare room, in memory of its own.
func wholeMark(m api.Mark) api.Mark {
	return mark(m.Span, m.When, slices.Clone(m.Cores[:cap(m.Cores)]))
}

// whole is c with all its spare room, in memory of its own.
func whole(c api.Clock) api.Clock {
	own := api.Clock{Wait: c.Wait}
	for _, m := range c.Marks[:cap(c.Marks)] {
		own.Marks = append(own.Marks, wholeMark(m))
	}
	return own
}

// fillCores writes over all cores, the spare room too.
func fillCores(l []api.Core) {
	l = l[:cap(l)]
	for n := range l {
		l[n] = api.Core{PC: 66, Regs: [api.MaxRegs]uint32{6, 6, 6}}
	}
}

// fillMarks writes over all marks of c, the spare room too, but over none of their cores.
func fillMarks(c api.Clock) {
	l := c.Marks[:cap(c.Marks)]
	for n := range l {
		l[n] = mark(66, 66, cores(66, 1))
	}
}

// fill writes over all of c, the spare room too.
func fill(c api.Clock) {
	for _, m := range c.Marks[:cap(c.Marks)] {
		fillCores(m.Cores)
	}
	fillMarks(c)
}

// Rule 3: no call changes what it is given, nor what lies in the spare room, nor lets that be seen.
func TestLeavesWhatItIsGiven(t *testing.T) {
	for about, c := range some() {
		given := roomyClock(c)
		before := whole(given)
		for _, d := range few(c) {
			asked := roomyDeed(d)
			becomes(t, about, given, asked, d.asks(c))
			if !alike(whole(given), before) {
				t.Fatalf("%s: %+v changed what it was given to %v; it was %v", about, d, whole(given), before)
			}
			if !slices.Equal(asked.cores[:cap(asked.cores)], roomyDeed(d).cores[:cap(asked.cores)]) {
				t.Fatalf("%s: %+v changed its cores to %v", about, d, asked.cores[:cap(asked.cores)])
			}
		}
		if clock.Right(given) != right(c) || !alike(whole(given), before) {
			t.Fatalf("%s: Right is %t; what was given is %v", about, clock.Right(given), whole(given))
		}
	}
	for many := range 7 {
		asked := roomyDeed(deed{call: "New", span: 5, cores: cores(3, many)})
		clock.New(5, asked.cores)
		if want := append(cores(3, many), api.Core{PC: 96}, api.Core{PC: 96}, api.Core{PC: 96}); !slices.Equal(asked.cores[:many+3], want) {
			t.Fatalf("New changed its cores to %v", asked.cores[:many+3])
		}
	}
}

// lists are so many ways to write over one list of an answer: the marks, the cores of each one, and those of the mark that is told.
func lists(of done) []func(got done) {
	all := []func(got done){
		func(got done) { fillMarks(got.c) },
		func(got done) { fillCores(got.m.Cores) },
	}
	for n := range of.c.Marks {
		all = append(all, func(got done) { fillCores(got.c.Marks[n].Cores) })
	}
	return all
}

// untouched answers whether got, of which the list of that number was written over, is as want but for that list.
func untouched(got, want done, list int) bool {
	if list != 1 && !slices.Equal(got.m.Cores, want.m.Cores) {
		return false
	}
	for n, m := range want.c.Marks {
		if list != 0 && list != n+2 && !slices.Equal(got.c.Marks[n].Cores, m.Cores) {
			return false
		}
	}
	return list == 0 || len(got.c.Marks) == len(want.c.Marks)
}

// Rule 3: no two lists of an answer share memory, where they were one in what was given neither: what is written over one is not seen in the others.
func TestListsOfAnAnswerShareNothing(t *testing.T) {
	for about, c := range some() {
		for _, d := range append(few(c), deed{call: "New", span: 5, cores: cores(1, 3)}) {
			want := d.asks(c)
			if d.call == "New" {
				want = done{c: api.Clock{Wait: 5, Marks: []api.Mark{mark(0, 0, d.cores)}}}
			}
			for n, by := range lists(want) {
				got := d.does(c)
				held := got
				held.c.Marks = slices.Clone(got.c.Marks)
				by(got)
				if !untouched(held, want, n) {
					t.Fatalf("%s: %+v: list %d of the answer was written over, and another one with it: %+v", about, d, n, held)
				}
			}
		}
	}
}

// Rules 3 and 4: each answer is new memory: what is written over it is seen neither in what was given, nor in another answer, beside an error neither.
func TestAnswersAreNew(t *testing.T) {
	for about, c := range some() {
		for _, d := range few(c) {
			given, asked, want := roomyClock(c), roomyDeed(d), d.asks(c)
			first, second := asked.does(given), asked.does(given)
			fill(first.c)
			fillCores(first.m.Cores)
			if !alike(whole(given), whole(roomyClock(c))) || !slices.Equal(asked.cores, d.cores) || !second.same(want) {
				t.Fatalf("%s: %+v: the first answer was written over: given %v, %v, second %+v; want %+v", about, d, given, asked, second, want)
			}
			fill(given)
			fillCores(asked.cores)
			if !second.same(want) {
				t.Fatalf("%s: %+v: what was given was written over: %+v; want %+v", about, d, second, want)
			}
		}
	}
	for many := range 5 {
		given := cores(3, many)
		first, _ := clock.New(5, given)
		second, _ := clock.New(5, given)
		fill(first)
		if !slices.Equal(given, cores(3, many)) {
			t.Fatalf("New's answer was written over, and its cores with it: %v", given)
		}
		fillCores(given)
		if !alike(second, api.Clock{Wait: 5, Marks: []api.Mark{mark(0, 0, cores(3, many))}}) {
			t.Fatalf("what New was given was written over, and its answer with it: %v", second)
		}
	}
}

// Rule 3: clocks that were made of one and the same go on without one another.
func TestClocksOfOneClockGoApart(t *testing.T) {
	for about, c := range rights() {
		last := c.Marks[len(c.Marks)-1]
		if len(c.Marks) > 6 || last.Span > end-2 || last.When > end-2 {
			continue
		}
		one, _ := clock.Tick(c, last.Span+1, last.When+1, cores(21, 2))
		two, _ := clock.Tick(c, last.Span+2, last.When+2, cores(22, 3))
		three, _ := clock.Tick(one, last.Span+2, last.When+2, cores(23, 4))
		four, _ := clock.Tick(one, last.Span+2, last.When+2, cores(24, 1))
		kept, _ := clock.Keep(three, last.When+c.Wait+1)
		back, _, _ := clock.Back(three, last.When+c.Wait+1)
		for n, got := range []api.Clock{one, two, three, four} {
			marks := [][]api.Mark{
				{mark(last.Span+1, last.When+1, cores(21, 2))},
				{mark(last.Span+2, last.When+2, cores(22, 3))},
				{mark(last.Span+1, last.When+1, cores(21, 2)), mark(last.Span+2, last.When+2, cores(23, 4))},
				{mark(last.Span+1, last.When+1, cores(21, 2)), mark(last.Span+2, last.When+2, cores(24, 1))},
			}[n]
			if want := turned(c, func(c *api.Clock) { c.Marks = append(c.Marks, marks...) }); !alike(got, want) {
				t.Errorf("%s: clock %d is %v; want %v", about, n, got, want)
			}
		}
		if last.When+c.Wait+1 <= end && (len(kept.Marks) != 2 || len(back.Marks) != 1) {
			t.Errorf("%s: kept %v, gone back %v", about, kept, back)
		}
	}
}

// Rule 4: asked again and again, each call answers the same.
func TestSameAgain(t *testing.T) {
	for about, c := range rights() {
		for _, d := range few(c) {
			want := d.does(c)
			for range 3 {
				becomes(t, about, c, d, want)
			}
		}
	}
}
