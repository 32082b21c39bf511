package due_test

import (
	"fmt"
	"math"
	"slices"
	"testing"

	"backstay/api"
	"backstay/due"
)

// end is the last time there is, and the last number.
const end = 1 << 40

// far are no times and no numbers, some of which a narrower integer would take for one.
var far = []int{-2, -8, -256, -1 << 20, -1 << 32, -1 << 40, end + 2, end + 256, end + 1<<32, 1 << 41, math.MaxInt, math.MaxInt - 1, math.MinInt, math.MinInt + 1}

// edges are the first and the last time and number there are, those beside them, and far ones.
func edges() []int {
	return append([]int{-1, 0, 1, end - 1, end, end + 1}, far...)
}

// of is a list of what is due, when and which, in turns.
func of(numbers ...int) []api.Due {
	var l []api.Due
	for n := 0; n < len(numbers); n += 2 {
		l = append(l, api.Due{When: numbers[n], Which: numbers[n+1]})
	}
	return l
}

// row is a list of so many, so far apart, the first one of that When and Which.
func row(many, when, whens, which, whiches int) []api.Due {
	var l []api.Due
	for n := range many {
		l = append(l, api.Due{When: when + n*whens, Which: which + n*whiches})
	}
	return l
}

// turned is the list with something of it turned.
func turned(l []api.Due, by func(l []api.Due)) []api.Due {
	l = slices.Clone(l)
	by(l)
	return l
}

// deed is a call: which, and with what; of Drop n is the Which, of Come the time.
type deed struct {
	call string
	d    api.Due
	n    int
}

// adds is a call of Add.
func adds(when, which int) deed {
	return deed{call: "Add", d: api.Due{When: when, Which: which}}
}

// drops is a call of Drop.
func drops(which int) deed {
	return deed{call: "Drop", n: which}
}

// comes is a call of Come.
func comes(now int) deed {
	return deed{call: "Come", n: now}
}

// done is what became of it: the list, what came, when the first one is due, a bool, and an error.
type done struct {
	l    []api.Due
	came []int
	when int
	is   bool
	err  api.Errno
}

// same answers whether a and b are; a list is nil or empty alike.
func (a done) same(b done) bool {
	return slices.Equal(a.l, b.l) && slices.Equal(a.came, b.came) && a.when == b.when && a.is == b.is && a.err == b.err
}

// does is what the program makes of d.
func (d deed) does(l []api.Due) done {
	var got done
	switch d.call {
	case "Right":
		got.is = due.Right(l)
	case "Add":
		got.l, got.err = due.Add(l, d.d)
	case "Drop":
		got.l, got.err = due.Drop(l, d.n)
	case "Come":
		got.l, got.came, got.err = due.Come(l, d.n)
	case "First":
		got.when, got.is = due.First(l)
	case "Sort":
		got.l = due.Sort(l)
	}
	return got
}

// ahead answers whether a stands ahead of b.
func ahead(a, b api.Due) bool {
	return a.When < b.When || a.When == b.When && a.Which < b.Which
}

// may answers whether d may be due.
func may(d api.Due) bool {
	return d.When >= 0 && d.When <= end && d.Which >= 0 && d.Which <= end
}

// right answers whether the document takes l for right: each is held against all others.
func right(l []api.Due) bool {
	for n, d := range l {
		if !may(d) {
			return false
		}
		for _, e := range l[:n] {
			if !ahead(e, d) || e.Which == d.Which {
				return false
			}
		}
	}
	return len(l) <= 64
}

// sorted is l in order: each one has as many ahead of it as are less, and those like it that stand ahead of it.
func sorted(l []api.Due) []api.Due {
	own := make([]api.Due, len(l))
	for n, d := range l {
		place := 0
		for i, e := range l {
			if ahead(e, d) || e == d && i < n {
				place++
			}
		}
		own[place] = d
	}
	return own
}

// asks is what the document asks of d, told without the program.
func (d deed) asks(l []api.Due) done {
	switch {
	case d.call == "Right":
		return done{is: right(l)}
	case d.call == "Sort" && len(l) > 200:
		return done{l: slices.Clone(l)}
	case d.call == "Sort":
		return done{l: sorted(l)}
	case d.call == "First" && (!right(l) || len(l) == 0):
		return done{}
	case d.call == "First":
		return done{when: l[0].When, is: true}
	case !right(l) || d.call == "Add" && !may(d.d):
		return done{l: slices.Clone(l), err: api.ErrArg}
	}
	var then done
	for _, e := range l {
		switch {
		case d.call == "Come" && e.When <= d.n:
			then.came = append(then.came, e.Which)
		case d.call == "Add" && e.Which == d.d.Which, d.call == "Drop" && e.Which == d.n:
		default:
			then.l = append(then.l, e)
		}
	}
	switch {
	case d.call == "Add" && len(then.l) == 64:
		then.err = api.ErrFull
	case d.call == "Add":
		then.l = sorted(append(then.l, d.d))
	case d.call == "Drop" && len(then.l) == len(l):
		then.err = api.ErrNone
	}
	return then
}

// becomes holds the program to making want of d.
func becomes(t *testing.T, what string, l []api.Due, d deed, want done) {
	t.Helper()
	if got := d.does(l); !got.same(want) {
		t.Errorf("%s: %+v of %v\n= %+v\nwant %+v", what, d, l, got, want)
	}
}

// stays holds the program to leaving the list as it is, with that error.
func stays(t *testing.T, what string, l []api.Due, d deed, err api.Errno) {
	t.Helper()
	becomes(t, what, l, d, done{l: slices.Clone(l), err: err})
}

// usual is a list that has several at one time, and numbers that neither rise nor fall.
func usual() []api.Due {
	return of(2, 9, 5, 1, 5, 4, 5, 30, 8, 0, 12, 7, 12, 8)
}

// rights are lists that may be.
func rights() map[string][]api.Due {
	return map[string][]api.Due{
		"nothing":                           nil,
		"an empty list":                     {},
		"the document's example":            of(8, 6, 10, 5),
		"usual":                             usual(),
		"one, of noughts":                   of(0, 0),
		"one, of the ends":                  of(end, end),
		"one, at 0, of the end":             of(0, end),
		"one, at the end, of 0":             of(end, 0),
		"one, between":                      of(70, 3),
		"two at one time":                   of(4, 2, 4, 3),
		"two at 0":                          of(0, 0, 0, end),
		"two at the end":                    of(end, 0, end, end),
		"two one apart, their numbers fall": of(4, 9, 5, 8),
		"two as far as there is":            of(0, 0, end, end),
		"two as far as there is, crossed":   of(0, end, end, 0),
		"three at the end":                  of(end-1, 7, end, 3, end, 4),
		"three, 2^32 apart":                 of(1, 1, 1+1<<32, 1+1<<32, 1+1<<33, 1+1<<33),
		"four, 256 apart":                   of(0, 0, 256, 256, 512, 512, 768, 768),
		"63, each at its own":               row(63, 3, 2, 5, 1),
		"63, at one":                        row(63, 8, 0, 2, 3),
		"64, each at its own":               row(64, 3, 2, 5, 1),
		"64, their numbers fall":            row(64, 3, 2, 70, -1),
		"64, at one":                        row(64, 8, 0, 2, 3),
		"64, at 0":                          row(64, 0, 0, 0, 1),
		"64, at the end":                    row(64, end, 0, end-63, 1),
		"64, up to the ends":                row(64, end-63, 1, end-63, 1),
		"64, far apart":                     row(64, 5, 1<<33, 4, 1<<33),
		"64, at two times":                  append(row(32, 4, 0, 40, 1), row(32, 5, 0, 2, 1)...),
	}
}

// name is n as a name has it.
func name(n int) string {
	return fmt.Sprint(n)
}

// looked answers whether that place of a list of so many is looked at, where not all are.
func looked(n, many int) bool {
	return n < 4 || n > many-4 || n == many/2
}

// wrongs are lists that may not be.
func wrongs() map[string][]api.Due {
	all := map[string][]api.Due{
		"65, each at its own":      row(65, 3, 2, 5, 1),
		"65, at one":               row(65, 8, 0, 2, 3),
		"66":                       row(66, 0, 1, 0, 1),
		"128":                      row(128, 0, 1, 0, 1),
		"200":                      row(200, 0, 1, 0, 1),
		"201":                      row(201, 0, 1, 0, 1),
		"256":                      row(256, 0, 1, 0, 1),
		"257":                      row(257, 0, 1, 400, -1),
		"320":                      row(320, 7, 0, 0, 1),
		"65, the other way round":  row(65, 100, -1, 0, 1),
		"201, the other way round": row(201, 300, -1, 0, 1),
		"64, all alike":            row(64, 4, 0, 4, 0),
		"64, all of one number":    row(64, 4, 1, 4, 0),
		"64, their times fall":     row(64, 70, -1, 4, 1),
		"64, numbers fall at one":  row(64, 4, 0, 70, -1),
	}
	for about, l := range rights() {
		for n := range l {
			if !looked(n, len(l)) {
				continue
			}
			for _, wrong := range append([]int{-1, end + 1}, far...) {
				all[about+": When "+name(wrong)+" at the place "+name(n)] = turned(l, func(l []api.Due) { l[n].When = wrong })
				all[about+": Which "+name(wrong)+" at the place "+name(n)] = turned(l, func(l []api.Due) { l[n].Which = wrong })
			}
			for i := range l[:n] {
				if !looked(i, n) {
					continue
				}
				what := " at the places " + name(i) + " and " + name(n)
				all[about+": one number"+what] = turned(l, func(l []api.Due) { l[n].Which = l[i].Which })
				all[about+": alike"+what] = turned(l, func(l []api.Due) { l[n] = l[i] })
				all[about+": changed"+what] = turned(l, func(l []api.Due) { l[n], l[i] = l[i], l[n] })
			}
		}
		if len(l) > 1 {
			all[about+": the other way round"] = turned(l, slices.Reverse)
		}
	}
	return all
}

// deeds are many calls of l: what is added, dropped and comes just ahead of, at and just behind what there is, and at edges.
func deeds(l []api.Due) []deed {
	whens, whiches := edges(), append(edges(), 77)
	for n, d := range l {
		if looked(n, len(l)) {
			whens = append(whens, d.When-1, d.When, d.When+1, d.When+256)
			whiches = append(whiches, d.Which-1, d.Which, d.Which+1, d.Which+256)
		}
	}
	list := []deed{{call: "Right"}, {call: "First"}, {call: "Sort"}}
	slices.Sort(whens)
	slices.Sort(whiches)
	for _, when := range slices.Compact(whens) {
		list = append(list, comes(when))
		for _, which := range slices.Compact(slices.Clone(whiches)) {
			list = append(list, adds(when, which))
		}
	}
	for _, which := range slices.Compact(whiches) {
		list = append(list, drops(which))
	}
	return list
}

// few are calls of l, one and more of each, some of which are refused.
func few(l []api.Due) []deed {
	list := []deed{{call: "Right"}, {call: "First"}, {call: "Sort"}, adds(0, 0), adds(6, 77), adds(end, end), adds(-1, 3), adds(3, end+1), drops(0), drops(77), drops(-1), comes(-1), comes(0), comes(end), comes(math.MaxInt)}
	for _, n := range []int{0, len(l) / 2, len(l) - 1} {
		if n >= 0 && n < len(l) {
			d := l[n]
			list = append(list, adds(d.When, 77), adds(d.When, d.Which), adds(d.When+1, d.Which), adds(7, d.Which), drops(d.Which), comes(d.When-1), comes(d.When))
		}
	}
	return list
}

// P15.1: Right, of lists that may be.
func TestRight(t *testing.T) {
	for about, l := range rights() {
		if !right(l) || !due.Right(l) {
			t.Errorf("%s: %v isn't right", about, l)
		}
	}
}

// P15.1: Right, of lists that may not be.
func TestNotRight(t *testing.T) {
	for about, l := range wrongs() {
		if right(l) || due.Right(l) {
			t.Errorf("%s: %v is right", about, l)
		}
	}
}

// P15.1: Right, of each number near the edges of how many there may be, and of each When and Which near theirs.
func TestRightEdges(t *testing.T) {
	for many := range 70 {
		for _, l := range [][]api.Due{row(many, 1, 1, 0, 1), row(many, 1, 0, 0, 1), row(many, 1, 1<<33, 70, -1)} {
			if got := due.Right(l); got != (many <= 64) {
				t.Errorf("%d of them: %t", many, got)
			}
		}
	}
	for _, when := range edges() {
		for _, which := range edges() {
			want := when >= 0 && when <= end && which >= 0 && which <= end
			if got := due.Right(of(when, which)); got != want {
				t.Errorf("%d at %d: %t", which, when, got)
			}
		}
	}
}

// P15.1: Right, of three, by all that are near one another.
func TestRightThree(t *testing.T) {
	for n := range 4096 {
		l := of(n%4, n/4%4, n/16%4, n/64%4, n/256%4, n/1024)
		if got := due.Right(l); got != right(l) {
			t.Errorf("%v: %t", l, got)
		}
	}
}

// step is a deed, and what becomes of it.
type step struct {
	d    deed
	want done
}

// plays holds the program to one step behind the other, from nothing on.
func plays(t *testing.T, what string, steps []step) {
	t.Helper()
	var l []api.Due
	for n, s := range steps {
		becomes(t, what+", step "+name(n), l, s.d, s.want)
		if s.d.call != "First" && s.d.call != "Right" {
			l = s.want.l
		}
	}
}

// P15.1: the document's example.
func TestExample(t *testing.T) {
	plays(t, "example", []step{
		{adds(10, 5), done{l: of(10, 5)}},
		{adds(8, 6), done{l: of(8, 6, 10, 5)}},
		{deed{call: "First"}, done{when: 8, is: true}},
		{comes(9), done{l: of(10, 5), came: []int{6}}},
		{deed{call: "First"}, done{when: 10, is: true}},
		{comes(10), done{came: []int{5}}},
		{deed{call: "First"}, done{}},
		{comes(11), done{}},
	})
	becomes(t, "example, at once", of(8, 6, 10, 5), comes(10), done{came: []int{6, 5}})
}

// P15.1: Add ahead of all, between, and behind all, at times of their own and at those of others; by hand.
func TestAdd(t *testing.T) {
	becomes(t, "to nothing", nil, adds(4, 3), done{l: of(4, 3)})
	becomes(t, "to an empty list", []api.Due{}, adds(0, 0), done{l: of(0, 0)})
	l := of(5, 4, 5, 8, 9, 2)
	becomes(t, "ahead of all", l, adds(4, 50), done{l: of(4, 50, 5, 4, 5, 8, 9, 2)})
	becomes(t, "ahead of all, at the first one's", l, adds(5, 3), done{l: of(5, 3, 5, 4, 5, 8, 9, 2)})
	becomes(t, "ahead of all, noughts", l, adds(0, 0), done{l: of(0, 0, 5, 4, 5, 8, 9, 2)})
	becomes(t, "between, of one time", l, adds(5, 5), done{l: of(5, 4, 5, 5, 5, 8, 9, 2)})
	becomes(t, "between, behind those of one time", l, adds(5, 9), done{l: of(5, 4, 5, 8, 5, 9, 9, 2)})
	becomes(t, "between", l, adds(6, 0), done{l: of(5, 4, 5, 8, 6, 0, 9, 2)})
	becomes(t, "between, ahead at the last one's", l, adds(9, 1), done{l: of(5, 4, 5, 8, 9, 1, 9, 2)})
	becomes(t, "behind all, at the last one's", l, adds(9, 3), done{l: of(5, 4, 5, 8, 9, 2, 9, 3)})
	becomes(t, "behind all", l, adds(10, 0), done{l: of(5, 4, 5, 8, 9, 2, 10, 0)})
	becomes(t, "behind all, the ends", l, adds(end, end), done{l: of(5, 4, 5, 8, 9, 2, end, end)})
}

// P15.1: Add of a Which that is there already, at an earlier, a later and the same When: that one goes; by hand.
func TestAddAgain(t *testing.T) {
	l := of(5, 4, 5, 8, 9, 2)
	becomes(t, "the first one, as it is", l, adds(5, 4), done{l: l})
	becomes(t, "the first one, earlier", l, adds(3, 4), done{l: of(3, 4, 5, 8, 9, 2)})
	becomes(t, "the first one, later", l, adds(7, 4), done{l: of(5, 8, 7, 4, 9, 2)})
	becomes(t, "the first one, behind all", l, adds(9, 4), done{l: of(5, 8, 9, 2, 9, 4)})
	becomes(t, "one between, as it is", l, adds(5, 8), done{l: l})
	becomes(t, "one between, earlier", l, adds(4, 8), done{l: of(4, 8, 5, 4, 9, 2)})
	becomes(t, "one between, later", l, adds(20, 8), done{l: of(5, 4, 9, 2, 20, 8)})
	becomes(t, "one between, later, but in its place", l, adds(6, 8), done{l: of(5, 4, 6, 8, 9, 2)})
	becomes(t, "the last one, as it is", l, adds(9, 2), done{l: l})
	becomes(t, "the last one, earlier", l, adds(5, 2), done{l: of(5, 2, 5, 4, 5, 8)})
	becomes(t, "the last one, earlier, but in its place", l, adds(6, 2), done{l: of(5, 4, 5, 8, 6, 2)})
	becomes(t, "the last one, later", l, adds(end, 2), done{l: of(5, 4, 5, 8, end, 2)})
	becomes(t, "the only one, earlier", of(5, 4), adds(0, 4), done{l: of(0, 4)})
	becomes(t, "the only one, later", of(5, 4), adds(6, 4), done{l: of(6, 4)})
	becomes(t, "the only one, as it is", of(5, 4), adds(5, 4), done{l: of(5, 4)})
}

// P15.1: Add to lists of 63, and of 64, of a Which that is there, and of one that isn't.
func TestAddFull(t *testing.T) {
	for _, full := range [][]api.Due{row(64, 3, 2, 5, 1), row(64, 8, 0, 5, 1), row(64, 3, 2, 68, -1), row(64, 3, 1<<33, 5, 1)} {
		for _, when := range []int{0, 3, 8, 9, end} {
			for _, which := range []int{0, 4, 69, 1 << 32, end} {
				d := adds(when, which)
				becomes(t, "to 63", full[1:], d, done{l: sorted(append(slices.Clone(full[1:]), d.d))})
				stays(t, "to 64, another one", full, d, api.ErrFull)
			}
			for n, was := range full {
				want := sorted(append(slices.Delete(slices.Clone(full), n, n+1), api.Due{When: when, Which: was.Which}))
				becomes(t, "to 64, one that is there", full, adds(when, was.Which), done{l: want})
			}
		}
	}
}

// P15.1: Add till there are 64, in all kinds of order; one more is ErrFull; where one was dropped, or came, there is room again.
func TestAddToTheFull(t *testing.T) {
	for about, at := range map[string]func(n int) (int, int){
		"rising":         func(n int) (int, int) { return n * 3, n },
		"falling":        func(n int) (int, int) { return 900 - n, n },
		"at one":         func(n int) (int, int) { return 5, 200 - n*3 },
		"mixed":          func(n int) (int, int) { return n * 37 % 64, n * 11 % 64 },
		"mixed, of some": func(n int) (int, int) { return n * 37 % 5, n * 11 % 64 },
	} {
		var l []api.Due
		for n := range 64 {
			when, which := at(n)
			want := sorted(append(slices.Clone(l), api.Due{When: when, Which: which}))
			becomes(t, about, l, adds(when, which), done{l: want})
			l = want
		}
		stays(t, about+", one more", l, adds(4, 1000), api.ErrFull)
		without := l[1:]
		becomes(t, about+", one is dropped", l, drops(l[0].Which), done{l: without})
		becomes(t, about+", one more", without, adds(end, 1000), done{l: append(slices.Clone(without), api.Due{When: end, Which: 1000})})
		then := comes(l[0].When).asks(l).l
		becomes(t, about+", one more, where some came", then, adds(end, 1000), done{l: append(slices.Clone(then), api.Due{When: end, Which: 1000})})
	}
}

// P15.1: Add of what may not be, and of what may just be, to lists with room, without, and to nothing.
func TestAddEdges(t *testing.T) {
	for about, l := range map[string][]api.Due{"usual": usual(), "nothing": nil, "63": row(63, 3, 2, 5, 1), "64": row(64, 3, 2, 5, 1)} {
		for _, when := range edges() {
			for _, which := range edges() {
				d := adds(when, which)
				switch {
				case when < 0 || when > end || which < 0 || which > end:
					stays(t, about, l, d, api.ErrArg)
				case about == "64":
					stays(t, about, l, d, api.ErrFull)
				default:
					becomes(t, about, l, d, d.asks(l))
				}
			}
		}
	}
}

// P15.1: Drop of the first one, of one between, of the last one, and of one that isn't there; by hand.
func TestDrop(t *testing.T) {
	l := of(5, 4, 5, 8, 9, 2, 11, 0)
	becomes(t, "the first one", l, drops(4), done{l: of(5, 8, 9, 2, 11, 0)})
	becomes(t, "one between", l, drops(8), done{l: of(5, 4, 9, 2, 11, 0)})
	becomes(t, "another one between", l, drops(2), done{l: of(5, 4, 5, 8, 11, 0)})
	becomes(t, "the last one", l, drops(0), done{l: of(5, 4, 5, 8, 9, 2)})
	for _, which := range append([]int{5, 9, 11, 3, 1, 256, 1 << 32, 8 + 1<<32, end, -1, end + 1}, far...) {
		stays(t, "none", l, drops(which), api.ErrNone)
		stays(t, "none, of nothing", nil, drops(which), api.ErrNone)
	}
	becomes(t, "the only one", of(5, 4), drops(4), done{})
	becomes(t, "of the end", of(0, end), drops(end), done{})
	stays(t, "its time", of(5, 4), drops(5), api.ErrNone)
	stays(t, "0, of nothing", nil, drops(0), api.ErrNone)
	full := row(64, 3, 2, 70, -1)
	for n, d := range full {
		becomes(t, "of 64", full, drops(d.Which), done{l: slices.Delete(slices.Clone(full), n, n+1)})
	}
	stays(t, "none of 64", full, drops(71), api.ErrNone)
	stays(t, "none of 64", full, drops(6), api.ErrNone)
}

// P15.1: Come ahead of the first one, at just its When, between, at just the last one's, and behind all: what comes, in order, and nothing of it is left; by hand.
func TestCome(t *testing.T) {
	l := usual() // 9 at 2; 1, 4 and 30 at 5; 0 at 8; 7 and 8 at 12
	came := []int{9, 1, 4, 30, 0, 7, 8}
	for now, many := range map[int]int{-1: 0, 0: 0, 1: 0, 2: 1, 3: 1, 4: 1, 5: 4, 6: 4, 7: 4, 8: 5, 9: 5, 11: 5, 12: 7, 13: 7, 256: 7, end - 1: 7, end: 7, end + 1: 7, math.MaxInt: 7, math.MinInt: 0, -end: 0, 1<<32 + 3: 7} {
		becomes(t, "at "+name(now), l, comes(now), done{l: l[many:], came: came[:many]})
	}
	for _, now := range edges() {
		becomes(t, "nothing, at "+name(now), nil, comes(now), done{})
		some := done{l: of(0, 3)}
		if now >= 0 {
			some = done{came: []int{3}}
		}
		becomes(t, "one at 0, at "+name(now), of(0, 3), comes(now), some)
		some = done{l: of(end, 3)}
		if now >= end {
			some = done{came: []int{3}}
		}
		becomes(t, "one at the end, at "+name(now), of(end, 3), comes(now), some)
	}
}

// P15.1: Come of all numbers that there may be, each at its own time, and all at one; asked again at once, nothing more comes.
func TestComeAll(t *testing.T) {
	for many := range 65 {
		l, one := row(many, 10, 3, 90, -1), row(many, 10, 0, 5, 2)
		var which, ones []int
		for n := range many {
			which, ones = append(which, 90-n), append(ones, 5+n*2)
		}
		for n := range many + 1 {
			for _, now := range []int{7 + n*3, 8 + n*3, 9 + n*3} {
				becomes(t, "each at its own", l, comes(now), done{l: l[n:], came: which[:n]})
				becomes(t, "again", l[n:], comes(now), done{l: l[n:]})
			}
		}
		becomes(t, "all at one", one, comes(9), done{l: one})
		becomes(t, "all at one", one, comes(10), done{came: ones})
		becomes(t, "all at one", one, comes(11), done{came: ones})
	}
}

// P15.1: First of a list with one, with several, and with none, and of one that isn't right.
func TestFirst(t *testing.T) {
	for about, c := range map[string]struct {
		l    []api.Due
		when int
		is   bool
	}{
		"nothing":                     {nil, 0, false},
		"an empty list":               {[]api.Due{}, 0, false},
		"one":                         {of(7, 3), 7, true},
		"one at 0":                    {of(0, 3), 0, true},
		"one at the end":              {of(end, 3), end, true},
		"one behind the end":          {of(end+1, 3), 0, false},
		"one ahead of 0":              {of(-1, 3), 0, false},
		"one of none":                 {of(7, -1), 0, false},
		"several":                     {usual(), 2, true},
		"several at one":              {row(5, 8, 0, 1, 1), 8, true},
		"two":                         {of(3, 9, 4, 0), 3, true},
		"two, the other way round":    {of(4, 0, 3, 9), 0, false},
		"two of one number":           {of(3, 9, 4, 9), 0, false},
		"two at one, the wrong order": {of(3, 9, 3, 8), 0, false},
		"64":                          {row(64, 6, 1, 0, 1), 6, true},
		"65":                          {row(65, 6, 1, 0, 1), 0, false},
	} {
		becomes(t, about, c.l, deed{call: "First"}, done{when: c.when, is: c.is})
	}
	for about, l := range rights() {
		becomes(t, about, l, deed{call: "First"}, deed{call: "First"}.asks(l))
	}
	for about, l := range wrongs() {
		becomes(t, about, l, deed{call: "First"}, done{})
	}
}

// P15.1: each call with a list that isn't right: ErrArg, and the list as it is, and nothing comes.
func TestWrongLists(t *testing.T) {
	for about, l := range wrongs() {
		list := []deed{adds(4, 3), adds(end, end), adds(-1, 3), adds(3, end+1), drops(4), drops(999), drops(-1), comes(-1), comes(0), comes(5), comes(end), comes(math.MaxInt), comes(math.MinInt)}
		for _, n := range []int{0, len(l) - 1} {
			list = append(list, adds(l[n].When, l[n].Which), drops(l[n].Which), comes(l[n].When))
		}
		for _, d := range list {
			stays(t, about, l, d, api.ErrArg)
		}
	}
}

// P15.1: which error comes first where more than one could be told.
func TestFirstError(t *testing.T) {
	full := row(64, 10, 1, 5, 1)
	wrong := turned(full, func(l []api.Due) { l[63].When = 10 })
	for _, c := range []struct {
		about string
		l     []api.Due
		d     deed
		want  api.Errno
	}{
		{"full, one that may be", full, adds(10, 4), api.ErrFull},
		{"full, of the ends", full, adds(end, end), api.ErrFull},
		{"full, When -1", full, adds(-1, 4), api.ErrArg},
		{"full, When behind the end", full, adds(end+1, 4), api.ErrArg},
		{"full, Which -1", full, adds(10, -1), api.ErrArg},
		{"full, Which behind the end", full, adds(10, end+1), api.ErrArg},
		{"full, both", full, adds(-1, end+1), api.ErrArg},
		{"full, one that is there, When -1", full, adds(-1, 5), api.ErrArg},
		{"full, one that is there, When behind the end", full, adds(end+1, 68), api.ErrArg},
		{"full, not right", wrong, adds(10, 4), api.ErrArg},
		{"full, not right, one that is there", wrong, adds(10, 5), api.ErrArg},
		{"65", row(65, 10, 1, 5, 1), adds(10, 4), api.ErrArg},
		{"65, one that is there", row(65, 10, 1, 5, 1), adds(10, 5), api.ErrArg},
		{"63, When -1", full[1:], adds(-1, 4), api.ErrArg},
		{"not right, none of it", wrong, drops(4), api.ErrArg},
		{"not right, one that is there", wrong, drops(5), api.ErrArg},
		{"65, none of it", row(65, 10, 1, 5, 1), drops(4), api.ErrArg},
		{"right, none of it", full, drops(4), api.ErrNone},
		{"right, a Which that may not be", full, drops(-1), api.ErrNone},
		{"right, a Which that may not be", full, drops(end + 1), api.ErrNone},
		{"not right, a Which that may not be", wrong, drops(-1), api.ErrArg},
		{"not right, a time ahead of all", wrong, comes(-1), api.ErrArg},
	} {
		stays(t, c.about, c.l, c.d, c.want)
	}
}

// P15.1 and P15.2: each call, at all edges at once, is what the document asks, and what can be gone on with is right.
func TestAllCalls(t *testing.T) {
	for about, l := range rights() {
		for _, d := range deeds(l) {
			becomes(t, about, l, d, d.asks(l))
			if got := d.does(l); !due.Right(got.l) {
				t.Errorf("%s: %+v makes %v, that isn't right", about, d, got.l)
			}
		}
	}
	for about, l := range wrongs() {
		for _, d := range few(l) {
			becomes(t, about, l, d, d.asks(l))
		}
	}
}
