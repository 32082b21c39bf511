package direc_test

import (
	"math"
	"slices"
	"testing"

	"backstay/api"
	"backstay/direc"
)

// far are numbers of neither cores nor owners, some of which a narrower integer would take for one.
var far = []int{-2, -3, 6, 7, 8, 64, 254, 255, 256, 257, 258, 65536 + 1, 1 << 32, 1<<32 + 1, math.MaxInt32, math.MinInt32, math.MaxInt, math.MaxInt - 1, math.MinInt, math.MinInt + 1}

// known is what is known with that owner, and with these cores sharing, of so many.
func known(owner, cores int, shares ...int) api.Entry {
	e := api.Entry{Owner: owner, Share: make([]bool, cores)}
	for _, n := range shares {
		e.Share[n] = true
	}
	return e
}

// copied is what e knows, in memory of its own.
func copied(e api.Entry) api.Entry {
	return api.Entry{Owner: e.Owner, Share: slices.Clone(e.Share)}
}

// alike answers whether a and b are; a list is nil or empty alike.
func alike(a, b api.Entry) bool {
	return a.Owner == b.Owner && slices.Equal(a.Share, b.Share)
}

// deed is a call, and of which core; New takes n for cores.
type deed struct {
	call string
	n    int
}

// done is what became of it: what is known, from whom the word comes, who is told off, and the error.
type done struct {
	e    api.Entry
	from int
	offs []int
	err  api.Errno
}

// does is what the program makes of d.
func (d deed) does(e api.Entry) done {
	var got done
	switch d.call {
	case "New":
		got.e, got.err = direc.New(d.n)
	case "Read":
		got.e, got.from, got.err = direc.Read(e, d.n)
	case "Write":
		got.e, got.from, got.offs, got.err = direc.Write(e, d.n)
	case "Back":
		got.e, got.err = direc.Back(e, d.n)
	}
	return got
}

// may answers whether the document lets e be, with so many cores.
func may(e api.Entry, cores int) bool {
	for n, shares := range e.Share {
		if shares && e.Owner == n+1 {
			return false
		}
	}
	return cores >= 1 && cores <= 4 && e.Owner >= 0 && e.Owner <= cores && len(e.Share) == cores
}

// sharing are the cores that share e, rising, but this one.
func sharing(e api.Entry, but int) []int {
	var l []int
	for n := range e.Share {
		if e.Share[n] && n != but {
			l = append(l, n)
		}
	}
	return l
}

// asks is what the document asks of d, told without the program.
func (d deed) asks(e api.Entry) done {
	cores := len(e.Share)
	if !may(e, cores) || d.n < 0 || d.n >= cores {
		return done{e: e, err: api.ErrArg}
	}
	mine := e.Owner == d.n+1
	switch d.call {
	case "Write":
		return done{e: known(d.n+1, cores), from: e.Owner, offs: sharing(e, d.n)}
	case "Back":
		if !mine {
			return done{e: e, err: api.ErrNone}
		}
		return done{e: known(0, cores, sharing(e, -1)...)}
	}
	if e.Owner == 0 && len(sharing(e, d.n)) == 0 {
		return done{e: known(d.n+1, cores), from: 0}
	}
	if mine {
		return done{e: e, from: e.Owner}
	}
	return done{e: known(e.Owner, cores, append(sharing(e, d.n), d.n)...), from: e.Owner}
}

// same answers whether a and b are.
func (a done) same(b done) bool {
	return alike(a.e, b.e) && a.from == b.from && slices.Equal(a.offs, b.offs) && a.err == b.err
}

// becomes holds the program to making want of d.
func becomes(t *testing.T, what string, e api.Entry, d deed, want done) {
	t.Helper()
	if got := d.does(e); !got.same(want) {
		t.Errorf("%s: %+v of %v = %+v; want %+v", what, d, e, got, want)
	}
}

// stays holds the program to leaving what is known as it is, with that error.
func stays(t *testing.T, what string, e api.Entry, d deed, err api.Errno) {
	t.Helper()
	becomes(t, what, e, d, done{e: e, err: err})
}

// all are all that may be written of so many cores, with each of these owners; the wrong ones among them.
func all(cores int, owners []int) []api.Entry {
	var l []api.Entry
	for _, owner := range owners {
		for mask := range 1 << cores {
			e := api.Entry{Owner: owner, Share: make([]bool, cores)}
			for n := range cores {
				e.Share[n] = mask>>n&1 == 1
			}
			l = append(l, e)
		}
	}
	return l
}

// near are owners from -1 on, to beyond what may be.
var near = []int{-1, 0, 1, 2, 3, 4, 5, 6}

// rights are all that may be known, of 1, 2, 3 and 4 cores.
func rights() []api.Entry {
	var l []api.Entry
	for cores := 1; cores <= 4; cores++ {
		for _, e := range all(cores, near) {
			if may(e, cores) {
				l = append(l, e)
			}
		}
	}
	return l
}

// wrongs are such as may not be known, of as many cores as share.
func wrongs() []api.Entry {
	l := []api.Entry{{}, {Owner: 1}, {Share: []bool{}}, {Owner: -1}, known(0, 256), known(0, 257), known(1, 260)}
	for cores := range 10 {
		for _, e := range all(cores, append(near, 7, 8, 9, 10)) {
			if !may(e, cores) {
				l = append(l, e)
			}
		}
	}
	for _, owner := range far {
		for cores := 1; cores <= 4; cores++ {
			l = append(l, known(owner, cores), known(owner, cores, 0), known(owner, cores, cores-1))
		}
	}
	return l
}

// deeds are each call that asks, of each core, and of such as aren't there.
func deeds(e api.Entry) []deed {
	var l []deed
	for _, call := range []string{"Read", "Write", "Back"} {
		for n := -1; n <= len(e.Share)+1; n++ {
			l = append(l, deed{call, n})
		}
	}
	return l
}

// P9.1: May, of all owners and all that share, with each number of cores, and with another one than share.
func TestMay(t *testing.T) {
	for there := range 7 {
		for _, e := range all(there, append(near, far...)) {
			for _, cores := range append([]int{-1, 0, 1, 2, 3, 4, 5}, far...) {
				if got := direc.May(e, cores); got != may(e, cores) {
					t.Errorf("May(%v, %d) = %t", e, cores, got)
				}
			}
		}
	}
}

// P9.1: May, by hand, at the edges that the chapter names.
func TestMayByHand(t *testing.T) {
	for _, c := range []struct {
		name  string
		e     api.Entry
		cores int
		want  bool
	}{
		{"one core, at home", known(0, 1), 1, true},
		{"one core, it shares", known(0, 1, 0), 1, true},
		{"one core, it owns", known(1, 1), 1, true},
		{"one core, it owns and shares", known(1, 1, 0), 1, false},
		{"four cores, the last one owns", known(4, 4), 4, true},
		{"four cores, the last one owns, the others share", known(4, 4, 0, 1, 2), 4, true},
		{"four cores, all share", known(0, 4, 0, 1, 2, 3), 4, true},
		{"four cores, the first one owns, all share", known(1, 4, 0, 1, 2, 3), 4, false},
		{"four cores, the third one owns and shares", known(3, 4, 2), 4, false},
		{"Owner -1", known(-1, 2), 2, false},
		{"Owner as many as cores", known(2, 2, 0), 2, true},
		{"Owner one more than cores", known(3, 2), 2, false},
		{"no cores", api.Entry{}, 0, false},
		{"five cores", known(0, 5), 5, false},
		{"five cores, the fifth one owns", known(5, 5), 5, false},
		{"five share, four cores", known(0, 5), 4, false},
		{"five share, four cores, the fifth one owns", known(5, 5), 4, false},
		{"three share, four cores", known(0, 3), 4, false},
		{"three share, four cores, the fourth one owns", known(4, 3), 4, false},
		{"Share is nil, one core", api.Entry{}, 1, false},
		{"Share is nil, one core owns", api.Entry{Owner: 1}, 1, false},
		{"-1 cores", api.Entry{}, -1, false},
		{"-1 cores, Owner -1", known(-1, 0), -1, false},
	} {
		if got := direc.May(c.e, c.cores); got != c.want {
			t.Errorf("%s: May(%v, %d) = %t", c.name, c.e, c.cores, got)
		}
	}
}

// P9.1: New: at home, nobody shares; none, and ErrArg, of too few or too many cores.
func TestNew(t *testing.T) {
	for cores := 1; cores <= 4; cores++ {
		becomes(t, "new", api.Entry{}, deed{"New", cores}, done{e: known(0, cores)})
		e, _ := direc.New(cores)
		if !direc.May(e, cores) || direc.Alone(e) {
			t.Errorf("New(%d) may not be, or somebody has it alone: %v", cores, e)
		}
	}
	for _, cores := range append([]int{-1, 0, 5}, far...) {
		becomes(t, "wrong", api.Entry{}, deed{"New", cores}, done{err: api.ErrArg})
	}
}

// P9.1: the chapter's example: 0 reads (alone), 1 reads, 2 writes: 1 is told off, and the word comes from 0's.
func TestExample(t *testing.T) {
	e, err := direc.New(3)
	if err != api.OK {
		t.Fatal(err)
	}
	e, from, err := direc.Read(e, 0)
	if !alike(e, known(1, 3)) || from != 0 || err != api.OK || !direc.Alone(e) {
		t.Fatal(e, from, err)
	}
	e, from, err = direc.Read(e, 1)
	if !alike(e, known(1, 3, 1)) || from != 1 || err != api.OK || direc.Alone(e) {
		t.Fatal(e, from, err)
	}
	e, from, offs, err := direc.Write(e, 2)
	if !alike(e, known(3, 3)) || from != 1 || !slices.Equal(offs, []int{1}) || err != api.OK || !direc.Alone(e) {
		t.Fatal(e, from, offs, err)
	}
}

// P9.1: Read, by hand.
func TestReadByHand(t *testing.T) {
	read := func(n int) deed { return deed{"Read", n} }
	becomes(t, "one core", known(0, 1), read(0), done{e: known(1, 1)})
	becomes(t, "one core, which shares", known(0, 1, 0), read(0), done{e: known(1, 1)})
	becomes(t, "one core, which owns", known(1, 1), read(0), done{e: known(1, 1), from: 1})
	becomes(t, "nobody has it", known(0, 4), read(3), done{e: known(4, 4)})
	becomes(t, "itself alone shares", known(0, 4, 2), read(2), done{e: known(3, 4)})
	becomes(t, "another one shares", known(0, 4, 2), read(1), done{e: known(0, 4, 1, 2)})
	becomes(t, "the others share", known(0, 4, 0, 1, 2), read(3), done{e: known(0, 4, 0, 1, 2, 3)})
	becomes(t, "itself and another one share", known(0, 4, 0, 3), read(0), done{e: known(0, 4, 0, 3)})
	becomes(t, "another one owns", known(2, 4), read(0), done{e: known(2, 4, 0), from: 2})
	becomes(t, "another one owns, itself shares", known(2, 4, 0), read(0), done{e: known(2, 4, 0), from: 2})
	becomes(t, "another one owns, a third one shares", known(4, 4, 1), read(2), done{e: known(4, 4, 1, 2), from: 4})
	becomes(t, "the owner, alone", known(2, 4), read(1), done{e: known(2, 4), from: 2})
	becomes(t, "the owner, others share", known(2, 4, 0, 3), read(1), done{e: known(2, 4, 0, 3), from: 2})
}

// P9.1: Write, by hand.
func TestWriteByHand(t *testing.T) {
	write := func(n int) deed { return deed{"Write", n} }
	becomes(t, "one core", known(0, 1), write(0), done{e: known(1, 1)})
	becomes(t, "one core, which shares", known(0, 1, 0), write(0), done{e: known(1, 1)})
	becomes(t, "one core, which owns", known(1, 1), write(0), done{e: known(1, 1), from: 1})
	becomes(t, "nobody has it", known(0, 4), write(0), done{e: known(1, 4)})
	becomes(t, "itself alone shares", known(0, 4, 3), write(3), done{e: known(4, 4)})
	becomes(t, "all share", known(0, 4, 0, 1, 2, 3), write(1), done{e: known(2, 4), offs: []int{0, 2, 3}})
	becomes(t, "the others share", known(0, 4, 1, 2, 3), write(0), done{e: known(1, 4), offs: []int{1, 2, 3}})
	becomes(t, "another one owns", known(3, 4), write(0), done{e: known(1, 4), from: 3})
	becomes(t, "another one owns, itself shares", known(3, 4, 0), write(0), done{e: known(1, 4), from: 3})
	becomes(t, "another one owns, the others share", known(3, 4, 0, 1, 3), write(0), done{e: known(1, 4), from: 3, offs: []int{1, 3}})
	becomes(t, "the owner, alone", known(3, 4), write(2), done{e: known(3, 4), from: 3})
	becomes(t, "the owner, others share", known(3, 4, 0, 1, 3), write(2), done{e: known(3, 4), from: 3, offs: []int{0, 1, 3}})
}

// P9.1: Back, by hand: nobody owns it then, and who shares does so on; ErrNone, if the core doesn't own it, though it share.
func TestBackByHand(t *testing.T) {
	becomes(t, "the owner, alone", known(1, 1), deed{"Back", 0}, done{e: known(0, 1)})
	becomes(t, "the owner, alone", known(4, 4), deed{"Back", 3}, done{e: known(0, 4)})
	becomes(t, "the owner, others share", known(2, 4, 0, 3), deed{"Back", 1}, done{e: known(0, 4, 0, 3)})
	stays(t, "it is at home", known(0, 4), deed{"Back", 0}, api.ErrNone)
	stays(t, "it is at home, one core", known(0, 1), deed{"Back", 0}, api.ErrNone)
	stays(t, "it shares", known(0, 4, 1), deed{"Back", 1}, api.ErrNone)
	stays(t, "the owner is the next one", known(2, 4), deed{"Back", 0}, api.ErrNone)
	stays(t, "the owner is the one ahead", known(2, 4), deed{"Back", 2}, api.ErrNone)
	stays(t, "it shares with an owner", known(2, 4, 3), deed{"Back", 3}, api.ErrNone)
}

// P9.1: Alone, of all that may be known, and of such as may not.
func TestAlone(t *testing.T) {
	for _, e := range rights() {
		want := e.Owner != 0 && len(sharing(e, -1)) == 0
		if got := direc.Alone(e); got != want {
			t.Errorf("Alone(%v) = %t", e, got)
		}
	}
	for _, e := range wrongs() {
		if direc.Alone(e) {
			t.Errorf("Alone(%v), which may not be", e)
		}
	}
	if !direc.Alone(known(1, 1)) || !direc.Alone(known(3, 4)) || direc.Alone(known(0, 4)) || direc.Alone(known(3, 4, 0)) || direc.Alone(known(0, 4, 0)) {
		t.Error("Alone, by hand")
	}
	if direc.Alone(known(5, 5)) || direc.Alone(known(5, 4)) || direc.Alone(api.Entry{Owner: 1}) {
		t.Error("Alone, of such as may not be, by hand")
	}
}

// P9.1: each call, of all that may be known and of each core, is what the document asks.
func TestAllCalls(t *testing.T) {
	for _, e := range rights() {
		for _, d := range deeds(e) {
			becomes(t, "right", e, d, d.asks(e))
		}
	}
}

// P9.1: ErrArg, and as it is, with each call: what may not be known, though the core be there; no from, and nobody told off.
func TestWrongEntries(t *testing.T) {
	for _, e := range wrongs() {
		for _, d := range deeds(e) {
			stays(t, "it may not be", e, d, api.ErrArg)
		}
	}
}

// P9.1: ErrArg, and as it is, with each call: no such core.
func TestWrongCores(t *testing.T) {
	for _, e := range rights() {
		for _, n := range append([]int{-1, len(e.Share), len(e.Share) + 1}, far...) {
			for _, call := range []string{"Read", "Write", "Back"} {
				stays(t, "no such core", e, deed{call, n}, api.ErrArg)
			}
		}
	}
}

// P9.1: ErrArg comes ahead of ErrNone.
func TestFirstError(t *testing.T) {
	stays(t, "it may not be, and the core doesn't own it", known(1, 2, 0), deed{"Back", 1}, api.ErrArg)
	stays(t, "it may not be, and the core owns it", known(1, 2, 0), deed{"Back", 0}, api.ErrArg)
	stays(t, "five cores, and the core doesn't own it", known(0, 5), deed{"Back", 0}, api.ErrArg)
	stays(t, "no such core, and it is at home", known(0, 2), deed{"Back", 2}, api.ErrArg)
	stays(t, "no such core, -1, which Owner 0 would name", known(0, 2), deed{"Back", -1}, api.ErrArg)
	stays(t, "an owner that isn't there gives back", known(3, 2), deed{"Back", 2}, api.ErrArg)
	stays(t, "a core that isn't there gives back what may not be", known(-1, 2), deed{"Back", -2}, api.ErrArg)
}

// held is who has a line alone, from 1 on (0: nobody), as P9.2 says it of what was asked so far.
type held int

// behind is who has it alone behind d, of e.
func (h held) behind(e api.Entry, d deed) held {
	me, alone := held(d.n+1), len(sharing(e, d.n)) == 0 && (e.Owner == 0 || e.Owner == d.n+1)
	switch {
	case d.call == "Write" || d.call == "Read" && alone:
		return me
	case h != me || d.call == "Back":
		return h.left(d)
	}
	return h
}

// left is who has it alone behind d, which somebody else asked, or by which it was given back; who gives back what isn't his takes it from nobody.
func (h held) left(d deed) held {
	if d.call == "Back" && h != held(d.n+1) {
		return h
	}
	return 0
}

// holds holds e to be what P9.2 says: may it be, does the owner not share, and has who must have it alone got it so?
func (h held) holds(t *testing.T, e api.Entry, l []deed) {
	t.Helper()
	if !direc.May(e, len(e.Share)) || e.Owner > 0 && e.Share[e.Owner-1] {
		t.Fatalf("behind %v: %v may not be", l, e)
	}
	if h > 0 && (e.Owner != int(h) || !direc.Alone(e)) {
		t.Fatalf("behind %v: %v; %d must have it alone", l, e, h-1)
	}
}

// play holds the program to P9.1 and P9.2, with one call behind the other from a new line on.
func play(t *testing.T, cores int, l []deed) {
	t.Helper()
	e, err := direc.New(cores)
	if err != api.OK {
		t.Fatal(err)
	}
	h := held(0)
	for i, d := range l {
		got, want := d.does(e), d.asks(e)
		if !got.same(want) {
			t.Fatalf("behind %v: %+v; want %+v", l[:i+1], got, want)
		}
		h = h.behind(e, d)
		e = got.e
		h.holds(t, e, l[:i+1])
	}
}

// P9.2: from a new line on, of 1, 2, 3 and 4 cores: all calls of all cores, one behind the other, as far as four of them.
func TestAllOrders(t *testing.T) {
	for cores := 1; cores <= 4; cores++ {
		orders(t, cores, nil)
	}
}

// orders plays l, and all that begins with it, up to four calls.
func orders(t *testing.T, cores int, l []deed) {
	t.Helper()
	play(t, cores, l)
	if len(l) == 4 {
		return
	}
	for _, call := range []string{"Read", "Write", "Back"} {
		for n := range cores {
			orders(t, cores, append(slices.Clone(l), deed{call, n}))
		}
	}
}

// lot gives numbers below n that look drawn, the same ones each time.
func lot(state uint64) func(n int) int {
	return func(n int) int {
		state = state*6364136223846793005 + 1442695040888963407
		return int(state>>33) % n
	}
}

// P9.2: whatever is asked, one behind the other and for long, wrong calls among it.
func TestDrawnCalls(t *testing.T) {
	calls := []string{"Read", "Read", "Read", "Write", "Back", "Back"}
	for seed := range 100 {
		draw := lot(uint64(seed))
		cores := 1 + seed%4
		var l []deed
		for range 200 {
			d := deed{calls[draw(len(calls))], draw(cores)}
			if e := draw(20); e < 2 {
				d.n = -1 + e*(cores+1)
			}
			l = append(l, d)
		}
		playWrong(t, cores, l)
	}
}

// playWrong is play, but for the calls of cores that aren't there, which must leave all as it is.
func playWrong(t *testing.T, cores int, l []deed) {
	t.Helper()
	var there []deed
	e := known(0, cores)
	for _, d := range l {
		if d.n < 0 || d.n >= cores {
			stays(t, "drawn", e, d, api.ErrArg)
			continue
		}
		e = d.does(e).e
		there = append(there, d)
	}
	play(t, cores, there)
}

// P9.2: who reads or writes alone has it alone through its own asking, and no more once somebody else asked.
func TestTillSomebodyElseAsks(t *testing.T) {
	for cores := 2; cores <= 4; cores++ {
		for n := range cores {
			for _, first := range []string{"Read", "Write"} {
				e := deed{first, n}.does(known(0, cores)).e
				for _, again := range []string{"Read", "Write", "Write", "Read", "Read"} {
					got := deed{again, n}.does(e)
					if !direc.Alone(got.e) || got.e.Owner != n+1 || got.from != n+1 || len(got.offs) > 0 {
						t.Errorf("%d has %v, and again: %s: %+v", n, e, again, got)
					}
					e = got.e
				}
				other := (n + 1) % cores
				if got := (deed{"Read", other}).does(e); direc.Alone(got.e) || got.e.Owner != n+1 {
					t.Errorf("%d has %v, and %d read: %+v", n, e, other, got)
				}
				if got := (deed{"Write", other}).does(e); !direc.Alone(got.e) || got.e.Owner != other+1 {
					t.Errorf("%d has %v, and %d wrote: %+v", n, e, other, got)
				}
			}
		}
	}
}

// roomy is what e knows, with spare room behind what shares; all is all of that.
func roomy(e api.Entry) (given api.Entry, all []bool) {
	all = append(slices.Clone(e.Share), true, false, true)
	return api.Entry{Owner: e.Owner, Share: all[:len(e.Share)]}, all
}

// Rule 3: no call changes what it is given, nor what lies in the spare room, nor lets that be seen.
func TestLeavesWhatItIsGiven(t *testing.T) {
	for _, e := range append(rights(), wrongs()...) {
		given, all := roomy(e)
		before := slices.Clone(all)
		if direc.May(given, len(e.Share)) != may(e, len(e.Share)) || direc.Alone(given) != direc.Alone(e) {
			t.Fatalf("May or Alone of %v hangs on the spare room", e)
		}
		for _, d := range deeds(e) {
			becomes(t, "roomy", given, d, d.asks(e))
			if !slices.Equal(all, before) {
				t.Fatalf("%+v changed what it was given to %v; it was %v", d, all, before)
			}
		}
	}
}

// writeOver turns all of e that shares, and fills its spare room.
func writeOver(e api.Entry) {
	for n := range e.Share {
		e.Share[n] = !e.Share[n]
	}
	_ = append(e.Share, true, true, true, true)
}

// Rules 3 and 4: each answer is new memory: what is written over it is seen neither in what was given, nor in another answer, nor in another list of it, beside an error neither.
func TestAnswersAreNew(t *testing.T) {
	for _, e := range append(rights(), wrongs()...) {
		for _, d := range deeds(e) {
			given, want := copied(e), d.asks(e)
			first, second := d.does(given), d.does(given)
			writeOver(first.e)
			if !alike(given, e) || !second.same(want) || !slices.Equal(first.offs, want.offs) {
				t.Fatalf("%+v: the first answer was written over: given %v, second %+v, told off %v; want %+v", d, given, second, first.offs, want)
			}
			for i := range first.offs {
				first.offs[i] = 66
			}
			writeOver(given)
			if !second.same(want) {
				t.Fatalf("%+v: what was given, and who is told off, were written over: %+v; want %+v", d, second, want)
			}
		}
	}
	for cores := 1; cores <= 4; cores++ {
		e, _ := direc.New(cores)
		writeOver(e)
		if again, _ := direc.New(cores); !alike(again, known(0, cores)) {
			t.Errorf("an answer of New was written over, and the next one is %v", again)
		}
	}
}
