package due_test

import (
	"math"
	"slices"
	"testing"

	"backstay/api"
	"backstay/due"
)

// plain is what is due, in the order in which it was added.
type plain []api.Due

// place is where the one of that Which stands, or -1.
func (p plain) place(which int) int {
	for n, d := range p {
		if d.Which == which {
			return n
		}
	}
	return -1
}

// least is where the one stands that is due first, or -1.
func (p plain) least() int {
	least := -1
	for n, d := range p {
		if least < 0 || ahead(d, p[least]) {
			least = n
		}
	}
	return least
}

// but is p without the one at that place.
func (p plain) but(n int) plain {
	return slices.Delete(slices.Clone(p), n, n+1)
}

// list is the list that p would be: the one that is due first, and the next one, till there is none.
func (p plain) list() []api.Due {
	var l []api.Due
	for len(p) > 0 {
		n := p.least()
		l = append(l, p[n])
		p = p.but(n)
	}
	return l
}

// does is p behind d, and what d answers.
func (p plain) does(d deed) (plain, done) {
	var then done
	switch d.call {
	case "Add":
		n := p.place(d.d.Which)
		if n < 0 && len(p) == 64 {
			return p, done{l: p.list(), err: api.ErrFull}
		}
		if n >= 0 {
			p = p.but(n)
		}
		p = append(slices.Clone(p), d.d)
	case "Drop":
		n := p.place(d.n)
		if n < 0 {
			return p, done{l: p.list(), err: api.ErrNone}
		}
		p = p.but(n)
	case "Come":
		for n := p.least(); n >= 0 && p[n].When <= d.n; n = p.least() {
			then.came = append(then.came, p[n].Which)
			p = p.but(n)
		}
	}
	then.l = p.list()
	return p, then
}

// goes holds the program to d, from the list of p on, and to what of its list is due first. It answers what both are then.
func goes(t *testing.T, l []api.Due, p plain, d deed) ([]api.Due, plain) {
	t.Helper()
	next, want := p.does(d)
	got := d.does(l)
	if !got.same(want) {
		t.Fatalf("%+v of %v\n= %+v\nwant %+v", d, l, got, want)
	}
	when, is := due.First(got.l)
	if !due.Right(got.l) || is != (len(next) > 0) || is && when != next[next.least()].When {
		t.Fatalf("%+v of %v\n= %+v: Right is %t, First is %d, %t", d, l, got, due.Right(got.l), when, is)
	}
	if d.call == "Come" && is && when <= d.n {
		t.Fatalf("%+v of %v\n= %+v: some that comes is left", d, l, got)
	}
	return got.l, next
}

// P15.1: all orders of five calls there are, of three numbers and three times.
func TestAllOrders(t *testing.T) {
	var all []deed
	for n := range 9 {
		all = append(all, adds(n/3, n%3))
	}
	for n := range 3 {
		all = append(all, drops(n), comes(n))
	}
	var from func(l []api.Due, p plain, more int)
	from = func(l []api.Due, p plain, more int) {
		if more == 0 {
			return
		}
		for _, d := range all {
			next, then := goes(t, l, p, d)
			from(next, then, more-1)
		}
	}
	from(nil, nil, 5)
}

// drawn is a call at about that time, of one of so many numbers from some number on.
func drawn(draw func(n int) int, now, some, many int) deed {
	which := min(end, some+draw(many))
	switch draw(16) {
	case 0, 1, 2:
		return drops(which)
	case 3, 4:
		return comes(max(0, now-draw(6)))
	}
	return adds(min(end, now+draw(12)), which)
}

// P15.1: many drawn orders of adding, dropping and coming, the list full now and then, up to the last time and number too.
func TestDrawnOrders(t *testing.T) {
	full, came, none, moved := 0, 0, 0, 0
	for seed := range 400 {
		draw := lot(uint64(seed))
		now, some, many := 0, 0, 1+draw(120)
		if seed%4 == 3 {
			now, some = end-60, end-40
		}
		calm := 1 + draw(30)
		var l []api.Due
		var p plain
		for range 300 {
			if draw(calm) == 0 {
				now = min(end, now+draw(4))
			}
			d := drawn(draw, now, some, many)
			if calm > 10 && draw(3) > 0 {
				d = adds(min(end, now+draw(12)), min(end, some+draw(many)))
			}
			if d.call == "Add" && len(l) == 64 && p.place(d.d.Which) < 0 {
				full++
			}
			if d.call == "Add" && p.place(d.d.Which) >= 0 {
				moved++
			}
			if d.call == "Drop" && p.place(d.n) < 0 {
				none++
			}
			was := len(l)
			l, p = goes(t, l, p, d)
			if d.call == "Come" && was > len(l) {
				came++
			}
		}
	}
	if full < 1000 || came < 1000 || none < 1000 || moved < 1000 {
		t.Errorf("%d times full, %d times some came, %d times none was there, %d times one was there: too few to tell", full, came, none, moved)
	}
}

// P15.1: as time goes on by one, or by more, each one comes once, as soon as the time is asked for that is not below its When, but those that were dropped; those that are added late come at once; one added again comes when it was said last.
func TestComesOnce(t *testing.T) {
	for seed := range 200 {
		draw := lot(uint64(700 + seed))
		at := make(map[int]int)
		var l []api.Due
		for now := 0; now < 300; now += 1 + draw(3) {
			for range draw(4) {
				d := adds(max(0, now-3+draw(40)), draw(50))
				got := d.does(l)
				l, at[d.d.Which] = got.l, d.d.When
			}
			if which := draw(50); draw(5) == 0 {
				l = drops(which).does(l).l
				delete(at, which)
			}
			got := comes(now).does(l)
			for n, which := range got.came {
				when, is := at[which]
				if !is || when > now || n > 0 && at[got.came[n-1]] > when {
					t.Fatalf("seed %d: at %d come %v; %d is due at %d, %t", seed, now, got.came, which, when, is)
				}
			}
			for _, which := range got.came {
				delete(at, which)
			}
			for which, when := range at {
				if when <= now {
					t.Fatalf("seed %d: at %d come %v; %d, that is due at %d, doesn't", seed, now, got.came, which, when)
				}
			}
			l = got.l
		}
		if last := comes(math.MaxInt).does(l); len(last.l) != 0 || len(last.came) != len(at) {
			t.Fatalf("seed %d: at last come %v; want all of %v", seed, last.came, at)
		}
	}
}

// P15.1: whatever the order in which they are added, the list is the same, as Sort has it, and they come in that order, one by one or all at once.
func TestAddedInAnyOrder(t *testing.T) {
	for seed := range 300 {
		draw := lot(uint64(90 + seed))
		var given []api.Due
		var numbers []int
		for n := range 1 + draw(64) {
			given = append(given, api.Due{When: draw(30), Which: n * 7 % 64})
		}
		l := []api.Due(nil)
		for _, d := range given {
			l, _ = due.Add(l, d)
		}
		if want := due.Sort(given); !slices.Equal(l, want) {
			t.Fatalf("%v were added: %v; want %v", given, l, want)
		}
		for _, d := range l {
			numbers = append(numbers, d.Which)
		}
		becomes(t, "all at once", l, comes(30), done{came: numbers})
		var came []int
		for len(l) > 0 {
			when, _ := due.First(l)
			left, some, err := due.Come(l, when)
			if err != api.OK || len(some) == 0 {
				t.Fatalf("at %d, the first one's, come %v of %v: %d", when, some, l, err)
			}
			l, came = left, append(came, some...)
		}
		if !slices.Equal(came, numbers) {
			t.Fatalf("one by one come %v; want %v", came, numbers)
		}
	}
}
