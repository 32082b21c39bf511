package commit_test

import (
	"slices"
	"testing"

	"backstay/api"
	"backstay/commit"
)

// some are gates that may be and such as may not, few enough to look at each list of each answer.
func some() map[string]api.Gate {
	all := rights()
	wrong := wrongs()
	for _, about := range []string{"65 held, each of its own", "257 held", "usual: Span -1 at the place 0", "usual: one less than the one's ahead at the place 4", "usual: places changed at the place 6"} {
		one, is := wrong[about]
		if !is {
			panic("no such wrong gate: " + about)
		}
		all[about] = one
	}
	return all
}

// roomy is l with spare room behind it, in which something stands.
func roomy[T any](l []T, more T) []T {
	return append(slices.Clone(l), more, more, more)[:len(l)]
}

// roomyGate is g with spare room behind each list.
func roomyGate(g api.Gate) api.Gate {
	return api.Gate{Held: roomy(g.Held, hold(98, 98)), Out: roomy(g.Out, told(99))}
}

// whole is g with all its spare room, in memory of its own.
func whole(g api.Gate) api.Gate {
	return api.Gate{Held: slices.Clone(g.Held[:cap(g.Held)]), Out: slices.Clone(g.Out[:cap(g.Out)])}
}

// fillWith writes over all of l, the spare room too.
func fillWith[T any](l []T, with T) {
	l = l[:cap(l)]
	for n := range l {
		l[n] = with
	}
}

// fill writes over all of an answer, or of what is given, the spare room too.
func fill(all done) {
	fillWith(all.g.Held, hold(66, 66))
	fillWith(all.g.Out, told(67))
	fillWith(all.all, told(68))
}

// Rule 3: no call changes what it is given, nor what lies in the spare room, nor lets that be seen.
func TestLeavesWhatItIsGiven(t *testing.T) {
	for about, g := range some() {
		given := roomyGate(g)
		before := whole(given)
		for _, d := range deeds(g) {
			becomes(t, about, given, d, d.asks(g))
			if !alike(whole(given), before) {
				t.Fatalf("%s: %+v changed what it was given to %v; it was %v", about, d, whole(given), before)
			}
		}
		if commit.Right(given) != right(g) || !alike(whole(given), before) {
			t.Fatalf("%s: Right is %t; what was given is %v", about, commit.Right(given), whole(given))
		}
	}
}

// Rule 3: the two lists of an answer share nothing: what is written over one is not seen in the other.
func TestListsOfAnAnswerShareNothing(t *testing.T) {
	for about, g := range some() {
		for _, d := range deeds(g) {
			want, got := d.asks(g), d.does(g)
			fillWith(got.g.Held, hold(66, 66))
			if !slices.Equal(got.g.Out, want.g.Out) {
				t.Fatalf("%s: %+v: what is held was written over, and what was let out with it: %v", about, d, got.g)
			}
			got = d.does(g)
			fillWith(got.g.Out, told(67))
			if !slices.Equal(got.g.Held, want.g.Held) {
				t.Fatalf("%s: %+v: what was let out was written over, and what is held with it: %v", about, d, got.g)
			}
		}
	}
}

// Rules 3 and 4: each answer is new memory: what is written over it is seen neither in what was given, nor in another answer, beside an error neither.
func TestAnswersAreNew(t *testing.T) {
	for about, g := range some() {
		for _, d := range deeds(g) {
			given, want := roomyGate(g), d.asks(g)
			first, second := d.does(given), d.does(given)
			fill(first)
			if !alike(whole(given), whole(roomyGate(g))) || !second.same(want) {
				t.Fatalf("%s: %+v: the first answer was written over: given %v, second %+v; want %+v", about, d, given, second, want)
			}
			fill(done{g: given})
			if !second.same(want) {
				t.Fatalf("%s: %+v: what was given was written over: %+v; want %+v", about, d, second, want)
			}
		}
	}
}

// Rule 3: gates that were made of one and the same go on without one another.
func TestGatesOfOneGateGoApart(t *testing.T) {
	for about, g := range rights() {
		last := 0
		if len(g.Held) > 0 {
			last = g.Held[len(g.Held)-1].Span
		}
		if len(g.Held) > 62 || last > end-2 {
			continue
		}
		one, _ := commit.Tell(g, last, told(21))
		two, _ := commit.Tell(g, last+1, told(22))
		three, _ := commit.Tell(one, last+1, told(23))
		four, _ := commit.Tell(one, last+2, told(24))
		five, _ := commit.Sure(three, last+1)
		six, _ := commit.Sure(three, last+2)
		seven, _ := commit.Back(three, last+1)
		eight, _ := commit.Tell(five, last+2, told(25))
		more := func(list ...api.Held) api.Gate {
			return turned(g, func(g *api.Gate) { g.Held = append(g.Held, list...) })
		}
		all := append(all(g), told(21), told(23))
		for n, got := range []api.Gate{one, two, three, four, five, six, seven, eight} {
			want := []api.Gate{
				more(hold(21, last)),
				more(hold(22, last+1)),
				more(hold(21, last), hold(23, last+1)),
				more(hold(21, last), hold(24, last+2)),
				{Out: all[:len(all)-1], Held: []api.Held{hold(23, last+1)}},
				{Out: all},
				more(hold(21, last)),
				{Out: all[:len(all)-1], Held: []api.Held{hold(23, last+1), hold(25, last+2)}},
			}[n]
			if !alike(got, want) {
				t.Errorf("%s: gate %d is %v; want %v", about, n, got, want)
			}
		}
	}
}

// Rule 4: asked again and again, each call answers the same.
func TestSameAgain(t *testing.T) {
	for about, g := range rights() {
		for _, d := range deeds(g) {
			want := d.does(g)
			for range 3 {
				becomes(t, about, g, d, want)
			}
		}
	}
}
