package proto_test

import (
	"slices"
	"testing"

	"backstay/api"
)

// some are systems that may be and such as may not, few enough to look at each list of each answer.
func some() []api.Proto {
	l := []api.Proto{usual(), turned(usual(), idle(62)), turned(usual(), idle(63)), turned(usual(), waits(2, api.Wait{})), fresh(1, 1), turned(fresh(4, 3), knows(0, 0, 1, 2, 3), sent(api.Msg{Kind: api.GetM, From: 1, For: 1}))}
	for _, name := range []string{"nothing", "5 cores", "a short row of State 1", "a long row of Val 2", "no Share", "a frame of 18 bytes", "65 frames under way", "Busy of 1 4"} {
		l = append(l, wrongs()[name])
	}
	for seed := range 15 {
		l = append(l, drawn(lot(uint64(seed))))
	}
	return l
}

// roomy is l with spare room behind it, in which something stands.
func roomy[T any](l []T, more T) []T {
	return append(slices.Clone(l), more, more, more)[:len(l)]
}

// roomyRows are rows with spare room behind them, and behind each.
func roomyRows[T any](rows [][]T, more T) [][]T {
	var l [][]T
	for _, row := range rows {
		l = append(l, roomy(row, more))
	}
	return roomy(l, []T{more, more})
}

// roomyProto is p with spare room behind each list.
func roomyProto(p api.Proto) api.Proto {
	p = copied(p)
	p.State, p.Val, p.Pool.Frames = roomyRows(p.State, 3), roomyRows(p.Val, 99), roomyRows(p.Pool.Frames, 77)
	p.Wait, p.Home, p.Busy = roomy(p.Wait, api.Wait{Line: 1, Back: true}), roomy(p.Home, 98), roomy(p.Busy, 1)
	for line := range p.Dir {
		p.Dir[line].Share = roomy(p.Dir[line].Share, true)
	}
	p.Dir = roomy(p.Dir, api.Entry{Owner: 1, Share: []bool{false, true}})
	return p
}

// whole is l with all its spare room.
func whole[T any](l []T) []T {
	return slices.Clone(l[:cap(l)])
}

// wholeRows are all rows, the ones in the spare room too, each with its spare room.
func wholeRows[T any](rows [][]T) [][]T {
	l := whole(rows)
	for n, row := range l {
		l[n] = whole(row)
	}
	return l
}

// wholeProto is p with all its spare room, in memory of its own.
func wholeProto(p api.Proto) api.Proto {
	p.State, p.Val, p.Pool.Frames = wholeRows(p.State), wholeRows(p.Val), wholeRows(p.Pool.Frames)
	p.Wait, p.Home, p.Busy, p.Dir = whole(p.Wait), whole(p.Home), whole(p.Busy), whole(p.Dir)
	for line := range p.Dir {
		p.Dir[line].Share = whole(p.Dir[line].Share)
	}
	return p
}

// Rule 3: no call changes what it is given, nor what lies in the spare room, nor lets that be seen.
func TestLeavesWhatItIsGiven(t *testing.T) {
	for _, p := range some() {
		given := roomyProto(p)
		before := wholeProto(given)
		for _, d := range deeds(p) {
			becomes(t, "roomy", given, d, d.asks(p))
			if !alike(wholeProto(given), before) {
				t.Fatalf("%+v changed what it was given to %+v; it was %+v", d, wholeProto(given), before)
			}
		}
	}
}

// fill writes over all of l, its spare room too.
func fill[T any](l []T, with T) func() {
	return func() {
		l := l[:cap(l)]
		for n := range l {
			l[n] = with
		}
	}
}

// fillRows are what writes over each row, and over all rows.
func fillRows[T any](rows [][]T, with T) []func() {
	var l []func()
	for _, row := range rows {
		l = append(l, fill(row, with))
	}
	return append(l, fill(rows, nil))
}

// fills are what writes over each list of p.
func fills(p api.Proto) []func() {
	l := slices.Concat(fillRows(p.State, 66), fillRows(p.Val, 66), fillRows(p.Pool.Frames, 66))
	for _, e := range p.Dir {
		l = append(l, fill(e.Share, true), fill(e.Share, false))
	}
	return append(l, fill(p.Wait, api.Wait{Line: 66}), fill(p.Home, 66), fill(p.Busy, 66), fill(p.Dir, api.Entry{Owner: 66}))
}

// Rule 3: no two lists of an answer share memory, spare room or not: what is written over one is seen in no other one.
func TestListsOfAnAnswerShareNothing(t *testing.T) {
	for _, p := range some() {
		for _, d := range append(deeds(p), deed{call: "New", n: 4, line: 3}) {
			if !d.changes() && d.call != "New" {
				continue
			}
			for i := range fills(d.does(p).p) {
				got := d.does(p).p
				want := copied(got)
				fills(got)[i]()
				fills(want)[i]()
				if !alike(got, want) {
					t.Fatalf("%+v: one list of the answer was written over, and another one with it: %+v; want %+v", d, got, want)
				}
			}
		}
	}
}

// writeOver writes over all lists of p.
func writeOver(p api.Proto) {
	for _, f := range fills(p) {
		f()
	}
}

// Rules 3 and 4: each answer is new memory: what is written over it is seen neither in what was given, nor in another answer, beside an error neither.
func TestAnswersAreNew(t *testing.T) {
	for _, p := range some() {
		for _, d := range deeds(p) {
			given, want := copied(p), d.asks(p)
			first, second := d.does(given), d.does(given)
			writeOver(first.p)
			if !alike(given, p) || !second.same(want) {
				t.Fatalf("%+v: the first answer was written over: given %+v, second %+v; want %+v", d, given, second, want)
			}
			writeOver(given)
			if !second.same(want) {
				t.Fatalf("%+v: what was given was written over: %+v; want %+v", d, second, want)
			}
		}
	}
	for range 3 {
		d := deed{call: "New", n: 3, line: 5}
		becomes(t, "new", api.Proto{}, d, done{p: fresh(3, 5)})
		writeOver(d.does(api.Proto{}).p)
	}
}
