package undo_test

import (
	"slices"
	"testing"

	"backstay/api"
	"backstay/undo"
)

// some are logs that may be and such as may not, few enough to look at each list of each answer.
func some() map[string]api.Log {
	l := rights()
	wrong := wrongs()
	for _, about := range []string{"nothing", "65 words", "257 kept", "257 kept, one of it", "Span -1", "256 + 256 kept", "two that changed places", "all the other way round", "usual: At -1 at the place 0", "usual: Span one more than the log's at the place 5"} {
		one, is := wrong[about]
		if !is {
			panic("no such wrong log: " + about)
		}
		l[about] = one
	}
	return l
}

// roomy is l with spare room behind it, in which something stands.
func roomy[T any](l []T, more T) []T {
	return append(slices.Clone(l), more, more, more)[:len(l)]
}

// roomyLog is l with spare room behind each list.
func roomyLog(l api.Log) api.Log {
	return api.Log{Mem: roomy(l.Mem, 99), Span: l.Span, List: roomy(l.List, of(l.Span, 0, 98))}
}

// whole is l with all its spare room, in memory of its own.
func whole(l api.Log) api.Log {
	return api.Log{Mem: slices.Clone(l.Mem[:cap(l.Mem)]), Span: l.Span, List: slices.Clone(l.List[:cap(l.List)])}
}

// Rule 3: no call changes what it is given, nor what lies in the spare room, nor lets that be seen.
func TestLeavesWhatItIsGiven(t *testing.T) {
	for about, l := range some() {
		given := roomyLog(l)
		before := whole(given)
		for _, d := range deeds(l) {
			becomes(t, about, given, d, d.asks(l))
			if !alike(whole(given), before) {
				t.Fatalf("%s: %+v changed what it was given to %v; it was %v", about, d, whole(given), before)
			}
		}
		if undo.Right(given) != right(l) || undo.Room(given) != undo.Room(l) || !alike(whole(given), before) {
			t.Fatalf("%s: Right is %t, with room for %d; what was given is %v", about, undo.Right(given), undo.Room(given), whole(given))
		}
	}
}

// fillMem writes over all words of l, the spare room too.
func fillMem(l api.Log) {
	mem := l.Mem[:cap(l.Mem)]
	for at := range mem {
		mem[at] = 0x66666666
	}
}

// fillList writes over all of l's list, the spare room too.
func fillList(l api.Log) {
	list := l.List[:cap(l.List)]
	for n := range list {
		list[n] = of(66, 66, 0x66666666)
	}
}

// Rule 3: no two lists of an answer share memory: what is written over one is not seen in the other.
func TestListsOfAnAnswerShareNothing(t *testing.T) {
	for about, l := range some() {
		for _, d := range append(deeds(l), deed{call: "New", at: 5}) {
			got := d.does(l).l
			list := slices.Clone(got.List)
			if fillMem(got); !slices.Equal(got.List, list) {
				t.Fatalf("%s: %+v: the words of the answer were written over, and its list with them", about, d)
			}
			got = d.does(l).l
			mem := slices.Clone(got.Mem)
			if fillList(got); !slices.Equal(got.Mem, mem) {
				t.Fatalf("%s: %+v: the list of the answer was written over, and its words with it", about, d)
			}
		}
	}
}

// Rules 3 and 4: each answer is new memory: what is written over it is seen neither in what was given, nor in another answer, beside an error neither.
func TestAnswersAreNew(t *testing.T) {
	for about, l := range some() {
		for _, d := range deeds(l) {
			given, want := roomyLog(l), d.asks(l)
			first, second := d.does(given), d.does(given)
			fillMem(first.l)
			fillList(first.l)
			if !alike(whole(given), whole(roomyLog(l))) || !second.same(want) {
				t.Fatalf("%s: %+v: the first answer was written over: given %v, second %+v; want %+v", about, d, given, second, want)
			}
			fillMem(given)
			fillList(given)
			if !second.same(want) {
				t.Fatalf("%s: %+v: what was given was written over: %+v; want %+v", about, d, second, want)
			}
		}
	}
	for range 3 {
		one, err := undo.New(5)
		if err != api.OK || !alike(one, api.Log{Mem: make([]uint32, 5)}) {
			t.Fatalf("New(5) = %v, %d", one, err)
		}
		fillMem(one)
		fillList(one)
	}
}

// Rule 3: logs that were made of one and the same go on without one another.
func TestLogsOfOneLogGoApart(t *testing.T) {
	for about, l := range rights() {
		if undo.Room(l) < 2 || l.Span == end {
			continue
		}
		next, _ := undo.Next(l)
		want := deed{"Write", 0, 1}.asks(next).l
		one, _ := undo.Write(next, 0, 1)
		two, _ := undo.Write(next, len(l.Mem)-1, 2)
		three, _ := undo.Trim(one, l.Span+1)
		four, _ := undo.Write(three, len(l.Mem)-1, 3)
		if !alike(one, want) {
			t.Errorf("%s: written, it was %v; now it is %v", about, want, one)
		}
		becomes(t, about, next, deed{"Write", len(l.Mem) - 1, 2}, done{l: two})
		becomes(t, about, three, deed{"Write", len(l.Mem) - 1, 3}, done{l: four})
	}
}
