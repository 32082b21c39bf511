package store_test

import (
	"slices"
	"testing"

	"backstay/api"
	"backstay/store"
)

// some are stores that may be and such as may not, few enough to look at each list of each answer.
func some() map[string]api.Vault {
	all := rights()
	wrong := wrongs()
	for _, about := range []string{"nothing", "9 banks", "65 words in two banks", "banks without words", "257 kept", "Span -1", "Words 65536", "256 + 256 kept", "two that changed places", "usual: Par too short", "usual: a row too long", "usual: a row that is none", "usual: a row of another bit", "usual: a word more of each bank", "usual, bank 1 lost: the lost row isn't 0", "usual, bank 0 lost: At -1 at the place 0", "usual: Span one more than the store's at the place 5"} {
		one, is := wrong[about]
		if !is {
			panic("no such wrong store: " + about)
		}
		all[about] = one
	}
	return all
}

// roomy is l with spare room behind it, in which something stands.
func roomy[T any](l []T, more T) []T {
	return append(slices.Clone(l), more, more, more)[:len(l)]
}

// roomyStore is s with spare room behind each list.
func roomyStore(s api.Vault) api.Vault {
	s = copied(s)
	for n, row := range s.Banks.Rows {
		s.Banks.Rows[n] = roomy(row, 99)
	}
	s.Banks.Rows = roomy(s.Banks.Rows, []uint32{97, 96})
	s.Banks.Par, s.List = roomy(s.Banks.Par, 98), roomy(s.List, of(s.Span, 0, 98))
	return s
}

// whole is s with all its spare room, in memory of its own.
func whole(s api.Vault) api.Vault {
	rows := slices.Clone(s.Banks.Rows[:cap(s.Banks.Rows)])
	for n, row := range rows {
		rows[n] = slices.Clone(row[:cap(row)])
	}
	s.Banks.Rows, s.Banks.Par, s.List = rows, slices.Clone(s.Banks.Par[:cap(s.Banks.Par)]), slices.Clone(s.List[:cap(s.List)])
	return s
}

// fillWith writes w over all of l, its spare room too.
func fillWith[T any](l []T, w T) {
	l = l[:cap(l)]
	for n := range l {
		l[n] = w
	}
}

// lists are all that writes over a list of s: its list, Par, each row, and the rows themselves, which is the last one.
func lists(s api.Vault) []func() {
	all := []func(){func() { fillWith(s.List, of(66, 66, 0x66666666)) }, func() { fillWith(s.Banks.Par, 0x66666666) }}
	for _, row := range s.Banks.Rows {
		all = append(all, func() { fillWith(row, 0x66666666) })
	}
	return append(all, func() { fillWith(s.Banks.Rows, []uint32{6}) })
}

// fill writes over all lists of s.
func fill(s api.Vault) {
	for _, writes := range lists(s) {
		writes()
	}
}

// Rule 3: no call changes what it is given, nor what lies in the spare room, nor lets that be seen.
func TestLeavesWhatItIsGiven(t *testing.T) {
	for about, s := range some() {
		given := roomyStore(s)
		before := whole(given)
		for _, d := range deeds(s) {
			becomes(t, about, given, d, d.asks(s))
			if !alike(whole(given), before) {
				t.Fatalf("%s: %+v changed what it was given to %v; it was %v", about, d, whole(given), before)
			}
		}
		if store.Right(given) != right(s) || !slices.Equal(store.Words(given), store.Words(s)) || !alike(whole(given), before) {
			t.Fatalf("%s: Right is %t, Words %v; what was given is %v", about, store.Right(given), store.Words(given), whole(given))
		}
	}
}

// without is s as it is seen when nobody looks at the list of that number in lists.
func without(s api.Vault, list int) api.Vault {
	s = copied(s)
	switch rows := len(s.Banks.Rows); {
	case list == 0:
		s.List = nil
	case list == 1:
		s.Banks.Par = nil
	case list < rows+2:
		s.Banks.Rows[list-2] = nil
	default:
		s.Banks.Rows = nil
	}
	return s
}

// Rule 3: no two lists of an answer share memory: what is written over one is not seen in the others.
func TestListsOfAnAnswerShareNothing(t *testing.T) {
	for about, s := range some() {
		for _, d := range deeds(s) {
			if d.call == "Read" {
				continue
			}
			want := d.asks(s).s
			for n := range len(want.Banks.Rows) + 3 {
				got := d.does(s).s
				lists(got)[n]()
				if !alike(without(got, n), without(want, n)) {
					t.Fatalf("%s: %+v: the list %d of the answer was written over, and another one with it: %v; want %v", about, d, n, got, want)
				}
			}
		}
	}
	for n := range 6 {
		got, _ := store.New(5, 3)
		lists(got)[n]()
		if want := plainNew(5, 3); !alike(without(got, n), without(want, n)) {
			t.Fatalf("New: the list %d of the answer was written over, and another one with it: %v", n, got)
		}
	}
}

// Rules 3 and 4: each answer is new memory: what is written over it is seen neither in what was given, nor in another answer, beside an error neither.
func TestAnswersAreNew(t *testing.T) {
	for about, s := range some() {
		for _, d := range deeds(s) {
			given, want := roomyStore(s), d.asks(s)
			first, second := d.does(given), d.does(given)
			fill(first.s)
			if !alike(whole(given), whole(roomyStore(s))) || !second.same(want) {
				t.Fatalf("%s: %+v: the first answer was written over: given %v, second %+v; want %+v", about, d, given, second, want)
			}
			fill(given)
			if !second.same(want) {
				t.Fatalf("%s: %+v: what was given was written over: %+v; want %+v", about, d, second, want)
			}
		}
		given := roomyStore(s)
		want, first, second := store.Words(s), store.Words(given), store.Words(given)
		fillWith(first, 0x66666666)
		if !alike(whole(given), whole(roomyStore(s))) || !slices.Equal(second, want) {
			t.Fatalf("%s: what Words answered was written over: given %v, second %v", about, given, second)
		}
		fill(given)
		if !slices.Equal(second, want) {
			t.Fatalf("%s: what was given to Words was written over: %v; want %v", about, second, want)
		}
	}
	for range 3 {
		one, err := store.New(5, 3)
		if err != api.OK || !alike(one, plainNew(5, 3)) {
			t.Fatalf("New(5, 3) = %v, %d", one, err)
		}
		fill(one)
	}
}

// Rule 3: stores that were made of one and the same go on without one another.
func TestStoresOfOneStoreGoApart(t *testing.T) {
	for about, s := range rights() {
		if len(s.List) > 253 || s.Span == end || s.Banks.Lost > 0 {
			continue
		}
		next, _ := store.Next(s)
		last := s.Words - 1
		want := deed{"Write", 0, 1}.asks(next).s
		one, _ := store.Write(next, 0, 1)
		two, _ := store.Write(next, last, 2)
		three, _ := store.Trim(one, s.Span+1)
		four, _ := store.Write(three, last, 3)
		five, _ := store.Lose(three, 0)
		if !alike(one, want) {
			t.Errorf("%s: written, it was %v; now it is %v", about, want, one)
		}
		becomes(t, about, next, deed{"Write", last, 2}, done{s: two})
		becomes(t, about, three, deed{"Write", last, 3}, done{s: four})
		becomes(t, about, five, deed{call: "Rebuild"}, done{s: three})
	}
}

// Rule 4: what is asked again is answered as before.
func TestSameAgain(t *testing.T) {
	for about, s := range rights() {
		for _, d := range deeds(s) {
			want := d.does(s)
			for range 2 {
				becomes(t, about, s, d, want)
			}
		}
	}
}
