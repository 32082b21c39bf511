package due_test

import (
	"slices"
	"testing"

	"backstay/api"
	"backstay/due"
)

// some are lists that may be and such as may not, few enough to look at each list of each answer; long ones, too.
func some() map[string][]api.Due {
	all := rights()
	wrong := wrongs()
	for _, about := range []string{"65, each at its own", "64, their times fall", "200", "201", "201, the other way round", "usual: the other way round", "usual: When -1 at the place 0", "usual: one number at the places 0 and 3", "usual: alike at the places 1 and 2"} {
		one, is := wrong[about]
		if !is {
			panic("no such wrong list: " + about)
		}
		all[about] = one
	}
	return all
}

// roomy is the list with spare room behind it, in which something stands.
func roomy(l []api.Due) []api.Due {
	return append(slices.Clone(l), of(97, 97, 98, 98, 99, 99)...)[:len(l)]
}

// whole is the list with all its spare room, in memory of its own.
func whole[T any](l []T) []T {
	return slices.Clone(l[:cap(l)])
}

// fillWith writes over all of a list, the spare room too.
func fillWith[T any](l []T, with T) {
	l = l[:cap(l)]
	for n := range l {
		l[n] = with
	}
}

// Rule 3: no call changes what it is given, nor what lies in the spare room, nor lets that be seen.
func TestLeavesWhatItIsGiven(t *testing.T) {
	for about, l := range some() {
		given := roomy(l)
		before := whole(given)
		for _, d := range few(l) {
			becomes(t, about, given, d, d.asks(l))
			if !slices.Equal(whole(given), before) {
				t.Fatalf("%s: %+v changed what it was given to %v; it was %v", about, d, whole(given), before)
			}
		}
	}
}

// Rule 3: a piece of a list that somebody has is a list of its own: what stands ahead of it and behind it is neither changed nor seen.
func TestPieceOfAList(t *testing.T) {
	l := row(64, 10, 2, 200, -1)
	before := slices.Clone(l)
	for from := 0; from < 64; from += 9 {
		for to := from; to <= 64; to += 7 {
			piece := slices.Clone(l[from:to])
			for _, d := range few(piece) {
				becomes(t, "a piece", l[from:to], d, d.asks(piece))
				if !slices.Equal(l, before) {
					t.Fatalf("%+v of the piece from %d to %d changed the list to %v", d, from, to, l)
				}
			}
		}
	}
}

// Rule 3: the two lists of an answer share nothing: what is written over one is not seen in the other.
func TestListsOfAnAnswerShareNothing(t *testing.T) {
	for about, l := range some() {
		for _, d := range few(l) {
			want, got := d.asks(l), d.does(l)
			fillWith(got.l, api.Due{When: 66, Which: 66})
			if !slices.Equal(got.came, want.came) {
				t.Fatalf("%s: %+v: the list was written over, and what came with it: %+v", about, d, got)
			}
			got = d.does(l)
			fillWith(got.came, 67)
			if !slices.Equal(got.l, want.l) {
				t.Fatalf("%s: %+v: what came was written over, and the list with it: %+v", about, d, got)
			}
		}
	}
}

// Rules 3 and 4: each answer is new memory: what is written over it is seen neither in what was given, nor in another answer, beside an error neither.
func TestAnswersAreNew(t *testing.T) {
	for about, l := range some() {
		for _, d := range few(l) {
			given, want := roomy(l), d.asks(l)
			before := whole(given)
			first, second := d.does(given), d.does(given)
			fillWith(first.l, api.Due{When: 66, Which: 66})
			fillWith(first.came, 67)
			if !slices.Equal(whole(given), before) || !second.same(want) {
				t.Fatalf("%s: %+v: the first answer was written over: given %v, second %+v; want %+v", about, d, given, second, want)
			}
			fillWith(given, api.Due{When: 68, Which: 68})
			if !second.same(want) {
				t.Fatalf("%s: %+v: what was given was written over: %+v; want %+v", about, d, second, want)
			}
		}
	}
}

// Rule 3: lists that were made of one and the same go on without one another.
func TestListsOfOneListGoApart(t *testing.T) {
	for about, l := range rights() {
		if len(l) > 62 {
			continue
		}
		one, _ := due.Add(l, api.Due{When: end, Which: 5000})
		two, _ := due.Add(l, api.Due{When: end, Which: 6000})
		three, _ := due.Add(one, api.Due{When: end, Which: 7000})
		four, _ := due.Add(one, api.Due{When: 0, Which: 8000})
		five, _ := due.Drop(three, 5000)
		six, _, _ := due.Come(three, end-1)
		seven, _ := due.Add(six, api.Due{When: 1, Which: 9000})
		eight := due.Sort(three)
		more := func(numbers ...int) []api.Due {
			return sorted(append(slices.Clone(l), of(numbers...)...))
		}
		left := comes(end - 1).asks(l).l
		for n, got := range [][]api.Due{one, two, three, four, five, six, seven, eight} {
			want := [][]api.Due{
				more(end, 5000),
				more(end, 6000),
				more(end, 5000, end, 7000),
				more(end, 5000, 0, 8000),
				more(end, 7000),
				sorted(append(slices.Clone(left), of(end, 5000, end, 7000)...)),
				sorted(append(slices.Clone(left), of(1, 9000, end, 5000, end, 7000)...)),
				more(end, 5000, end, 7000),
			}[n]
			if !slices.Equal(got, want) {
				t.Errorf("%s: list %d is %v; want %v", about, n, got, want)
			}
		}
	}
}

// Rule 4: asked again and again, each call answers the same, whatever spare room there is.
func TestSameAgain(t *testing.T) {
	for about, l := range some() {
		for _, d := range few(l) {
			want := d.does(l)
			for _, again := range [][]api.Due{l, slices.Clip(slices.Clone(l)), roomy(l)} {
				becomes(t, about, again, d, want)
			}
		}
	}
}
