package atom_test

import (
	"math"
	"slices"
	"testing"

	"backstay/api"
	"backstay/atom"
)

const top = math.MaxUint32

type (
	mem   = []uint32
	cores = []api.Core
	outs  = []api.Told
)

var (
	fence = api.Ins{Op: api.Fence}
	halt  = api.Ins{Op: api.Halt}
	loop  = api.Ins{Op: api.Jump}
)

// plain are programs that may be, of different lengths and ends.
var plain = [][]api.Ins{{halt}, {fence, halt}, {fence, fence, loop}, filled(api.MaxProg, fence, halt)}

// filled is a program of so many, all alike but the last one.
func filled(many int, x, last api.Ins) []api.Ins {
	p := slices.Repeat([]api.Ins{x}, many)
	p[many-1] = last
	return p
}

// alike answers whether two machines are; a list is nil or empty alike.
func alike(a, b api.Atom) bool {
	return slices.Equal(a.Mem, b.Mem) && slices.Equal(a.Cores, b.Cores) && slices.Equal(a.Outs, b.Outs)
}

// copied is a machine that shares nothing with a.
func copied(a api.Atom) api.Atom {
	return api.Atom{Mem: slices.Clone(a.Mem), Cores: slices.Clone(a.Cores), Outs: slices.Clone(a.Outs)}
}

// isZero answers whether a machine has nothing at all.
func isZero(a api.Atom) bool {
	return len(a.Mem) == 0 && len(a.Cores) == 0 && len(a.Outs) == 0
}

// first is a machine at first, as the document asks it.
func first(many, words int) api.Atom {
	return api.Atom{Mem: make(mem, words), Cores: make(cores, many)}
}

// wrongs are lists of programs that may not be.
var wrongs = []struct {
	name  string
	progs [][]api.Ins
}{
	{"nil", nil},
	{"empty", [][]api.Ins{}},
	{"five", [][]api.Ins{{halt}, {halt}, {halt}, {halt}, {halt}}},
	{"many", slices.Repeat([][]api.Ins{{halt}}, 100)},
	{"one that is nil", [][]api.Ins{nil}},
	{"one that is empty, last", [][]api.Ins{{halt}, {}}},
	{"one without an end", [][]api.Ins{{fence}}},
	{"one without an end, last", [][]api.Ins{{halt}, {halt}, {halt}, {fence}}},
	{"one too long", [][]api.Ins{filled(api.MaxProg+1, fence, halt)}},
	{"one too long, first", [][]api.Ins{filled(api.MaxProg+1, fence, halt), {halt}}},
	{"no operation", [][]api.Ins{{{}, halt}}},
	{"no operation above", [][]api.Ins{{{Op: 17}, halt}}},
	{"a register too high", [][]api.Ins{{{Op: api.Store, A: 8}, halt}}},
	{"a register below 0", [][]api.Ins{{{Op: api.Load, B: -1}, halt}}},
	{"a register that isn't used", [][]api.Ins{{{Op: api.Out, B: 1}, halt}}},
	{"a jump one too far", [][]api.Ins{{halt}, {{Op: api.Jump, K: 1}}}},
	{"a wrong one that isn't come to", [][]api.Ins{{halt, {Op: api.Zero, K: 9}, halt}}},
}

// counts are numbers of words, and whether a machine may have so many.
var counts = []struct {
	words int
	may   bool
}{
	{1, true}, {2, true}, {32, true}, {63, true}, {64, true},
	{0, false}, {65, false}, {66, false}, {-1, false}, {-64, false}, {256, false}, {257, false}, {65537, false},
	{math.MaxInt32, false}, {math.MinInt32, false}, {math.MaxInt, false}, {math.MinInt, false}, {math.MinInt + 1, false},
}

// P4.1: New, of 1 to 4 programs and of 1 to 64 words, is a machine at first; of other numbers of words it is ErrArg.
func TestNew(t *testing.T) {
	for many := 1; many <= api.MaxCores; many++ {
		for _, c := range counts {
			got, err := atom.New(plain[:many], c.words)
			if !c.may {
				if err != api.ErrArg || !isZero(got) {
					t.Errorf("New of %d programs, %d words = %+v, %d; want nothing and ErrArg", many, c.words, got, err)
				}
				continue
			}
			if err != api.OK || !alike(got, first(many, c.words)) {
				t.Errorf("New of %d programs, %d words = %+v, %d", many, c.words, got, err)
			}
			if !atom.Right(plain[:many], got) {
				t.Errorf("New of %d programs, %d words is none that may be", many, c.words)
			}
		}
	}
}

// P4.1: New and Run, of programs that may not be, or so many words, are nothing and ErrArg, whatever is picked.
func TestWrongFirst(t *testing.T) {
	picks := [][]int{nil, {0}, {0, 1, 2, 3, 4}, {-1, 7}}
	for _, w := range wrongs {
		for _, words := range []int{-1, 0, 1, 64, 65} {
			if got, err := atom.New(w.progs, words); err != api.ErrArg || !isZero(got) {
				t.Errorf("%s: New with %d words = %+v, %d", w.name, words, got, err)
			}
			for _, l := range picks {
				if got, err := atom.Run(w.progs, words, l); err != api.ErrArg || !isZero(got) {
					t.Errorf("%s: Run with %d words, of %v = %+v, %d", w.name, words, l, got, err)
				}
			}
		}
	}
	for _, c := range counts {
		for _, l := range picks {
			got, err := atom.Run(plain, c.words, l)
			if c.may != (err == api.OK) || !c.may && (err != api.ErrArg || !isZero(got)) {
				t.Errorf("Run with %d words, of %v = %+v, %d", c.words, l, got, err)
			}
		}
	}
}

// P4.1: Right, with 1 to 4 programs, and of each number of words and cores around those that may be.
func TestRightByNumbers(t *testing.T) {
	for many := 1; many <= api.MaxCores; many++ {
		for words := 0; words <= api.MaxMem+3; words++ {
			for n := 0; n <= api.MaxCores+2; n++ {
				want := n == many && words >= 1 && words <= 64
				if got := atom.Right(plain[:many], first(n, words)); got != want {
					t.Errorf("Right of %d programs, %d cores, %d words = %t", many, n, words, got)
				}
			}
		}
	}
}

// P4.1: Right, with programs that may not be, though there is a core for each.
func TestRightOfWrongPrograms(t *testing.T) {
	for _, w := range wrongs {
		for n := range len(w.progs) + 2 {
			if atom.Right(w.progs, first(n, 5)) {
				t.Errorf("%s: Right with %d cores", w.name, n)
			}
		}
	}
}

// P4.1: Right, with each core in turn at each place of and around its own program; a place of another's program only isn't enough.
func TestRightByPlaces(t *testing.T) {
	for n, p := range plain {
		for _, pc := range []int{0, 1, 2, 3, 62, 63, 64, 65, -1, -2, 256, 65536, math.MaxInt, math.MinInt, math.MaxInt32, math.MinInt32} {
			for _, halted := range []bool{false, true} {
				a := first(len(plain), 5)
				a.Cores[n] = api.Core{Regs: [api.MaxRegs]uint32{7, top}, PC: pc, Halted: halted}
				want := pc >= 0 && pc < len(p)
				if got := atom.Right(plain, a); got != want {
					t.Errorf("Right with core %d of %d instructions at %d, Halted %t = %t", n, len(p), pc, halted, got)
				}
			}
		}
	}
}

// P4.1: Right asks nothing of words, registers or what was told.
func TestRightOfWhatever(t *testing.T) {
	a := api.Atom{
		Mem:   mem{top, 0, 1 << 31},
		Cores: cores{{Regs: [api.MaxRegs]uint32{top, top, 1, 2, 3, 4, 5, 6}}, {PC: 1, Halted: true}},
		Outs:  outs{{Core: 1, Val: top}, {Core: 0}, {Core: 77}, {Core: -1, Val: 3}},
	}
	if !atom.Right(plain[:2], a) {
		t.Error("Right of a machine that may be is false")
	}
	a.Outs = make(outs, 1000)
	if !atom.Right(plain[:2], a) {
		t.Error("Right of a machine that told much is false")
	}
}

// P4.1: the chapter's example, step by step.
func TestExample(t *testing.T) {
	progs := [][]api.Ins{{{Op: api.Set, A: 1, K: 5}, {Op: api.Store, A: 1, B: 0}, {Op: api.Out, A: 1}, halt}}
	five := [api.MaxRegs]uint32{0, 5}
	want := []api.Atom{
		{Mem: mem{0, 0}, Cores: cores{{Regs: five, PC: 1}}},
		{Mem: mem{5, 0}, Cores: cores{{Regs: five, PC: 2}}},
		{Mem: mem{5, 0}, Cores: cores{{Regs: five, PC: 3}}, Outs: outs{{Core: 0, Val: 5}}},
		{Mem: mem{5, 0}, Cores: cores{{Regs: five, PC: 3, Halted: true}}, Outs: outs{{Core: 0, Val: 5}}},
		{Mem: mem{5, 0}, Cores: cores{{Regs: five, PC: 3, Halted: true}}, Outs: outs{{Core: 0, Val: 5}}},
	}
	a, err := atom.New(progs, 2)
	if err != api.OK {
		t.Fatalf("New = %d", err)
	}
	for i, w := range want {
		if a, err = atom.Step(progs, a, 0); err != api.OK || !alike(a, w) {
			t.Errorf("step %d: %+v, %d; want %+v", i+1, a, err, w)
		}
		if got, err := atom.Run(progs, 2, make([]int, i+1)); err != api.OK || !alike(got, w) {
			t.Errorf("Run of %d: %+v, %d; want %+v", i+1, got, err, w)
		}
		if atom.Over(a) != (i >= 3) {
			t.Errorf("step %d: Over = %t", i+1, atom.Over(a))
		}
	}
}

// regs differ from each other, so that a register taken for another shows; by 3 words their places are 2, 1, 1, 2 and 0 first.
var regs = [api.MaxRegs]uint32{5, 70, 1000, 1 << 31, top, 129, 77777, 4000000000}

// with is regs with register r being n.
func with(r int, n uint32) [api.MaxRegs]uint32 {
	l := regs
	l[r] = n
	return l
}

// steps are steps of a core with regs, on the words 11, 1000 and 33, worked out by hand: the words behind it, what is told, and the core.
var steps = []struct {
	name string
	p    []api.Ins
	mem  mem
	told outs
	core api.Core
}{
	{"Read", []api.Ins{{Op: api.Load, A: 6, B: 0}, halt}, mem{11, 1000, 33}, nil, api.Core{Regs: with(6, 33), PC: 1}},
	{"Read of the first place", []api.Ins{{Op: api.Load, A: 4, B: 4}, halt}, mem{11, 1000, 33}, nil, api.Core{Regs: with(4, 11), PC: 1}},
	{"Write", []api.Ins{{Op: api.Store, A: 3, B: 1}, halt}, mem{11, 1 << 31, 33}, nil, api.Core{Regs: regs, PC: 1}},
	{"Write to the last place", []api.Ins{{Op: api.Store, A: 4, B: 0}, halt}, mem{11, 1000, top}, nil, api.Core{Regs: regs, PC: 1}},
	{"Trade that is done", []api.Ins{{Op: api.Swap, A: 2, B: 1, C: 7}, halt}, mem{11, 4000000000, 33}, nil, api.Core{Regs: regs, PC: 1}},
	{"Trade that isn't done", []api.Ins{{Op: api.Swap, A: 3, B: 1, C: 7}, halt}, mem{11, 1000, 33}, nil, api.Core{Regs: with(3, 1000), PC: 1}},
	{"Trade that isn't done, of its own number", []api.Ins{{Op: api.Swap, A: 5, B: 0, C: 5}, halt}, mem{11, 1000, 33}, nil, api.Core{Regs: with(5, 33), PC: 1}},
	{"Tell", []api.Ins{{Op: api.Out, A: 7}, halt}, mem{11, 1000, 33}, outs{{Val: 4000000000}}, api.Core{Regs: regs, PC: 1}},
	{"Nothing, of Set", []api.Ins{{Op: api.Set, A: 7, K: 3}, halt}, mem{11, 1000, 33}, nil, api.Core{Regs: with(7, 3), PC: 1}},
	{"Nothing, of Add", []api.Ins{{Op: api.Add, A: 7, B: 0, C: 1}, halt}, mem{11, 1000, 33}, nil, api.Core{Regs: with(7, 75), PC: 1}},
	{"Nothing, of Fence", []api.Ins{fence, halt}, mem{11, 1000, 33}, nil, api.Core{Regs: regs, PC: 1}},
	{"Nothing, of Jump", []api.Ins{{Op: api.Jump, K: 2}, halt, halt}, mem{11, 1000, 33}, nil, api.Core{Regs: regs, PC: 2}},
	{"Nothing, of Zero", []api.Ins{{Op: api.Zero, A: 0, K: 2}, halt, halt}, mem{11, 1000, 33}, nil, api.Core{Regs: regs, PC: 1}},
	{"Rest", []api.Ins{halt}, mem{11, 1000, 33}, nil, api.Core{Regs: regs, Halted: true}},
}

// P4.1: Step, of each kind of want, by each core in turn; the others, and what was told, stay as they are.
func TestStepOfEachKind(t *testing.T) {
	other := api.Core{Regs: with(0, 1), PC: 1}
	for _, s := range steps {
		for many := 1; many <= api.MaxCores; many++ {
			for n := range many {
				progs := slices.Repeat([][]api.Ins{{{Op: api.Store}, {Op: api.Out, A: 1}, loop}}, many)
				progs[n] = s.p
				a := api.Atom{Mem: mem{11, 1000, 33}, Cores: slices.Repeat(cores{other}, many), Outs: outs{{Core: 3, Val: 9}}}
				a.Cores[n] = api.Core{Regs: regs}
				want := copied(a)
				want.Mem, want.Cores[n] = s.mem, s.core
				for _, o := range s.told {
					want.Outs = append(want.Outs, api.Told{Core: n, Val: o.Val})
				}
				got, err := atom.Step(progs, a, n)
				if err != api.OK || !alike(got, want) {
					t.Errorf("%s, core %d of %d: Step = %+v, %d; want %+v", s.name, n, many, got, err, want)
				}
			}
		}
	}
}

// P4.1: Step of a core that has Halted leaves all as it is, wherever it stands, and is no error.
func TestStepOfOneThatHasHalted(t *testing.T) {
	for _, s := range steps {
		a := api.Atom{Mem: mem{11, 1000, 33}, Cores: cores{{Regs: regs, Halted: true}, {Regs: regs}}, Outs: outs{{Core: 1, Val: 2}}}
		progs := [][]api.Ins{s.p, {{Op: api.Out}, halt}}
		if got, err := atom.Step(progs, a, 0); err != api.OK || !alike(got, a) {
			t.Errorf("%s: Step = %+v, %d; want it as it is", s.name, got, err)
		}
	}
}

// P4.1: Step on memories of 1 and of 64 words, at their first and last places and round them.
func TestStepOnSmallAndLargeMemories(t *testing.T) {
	progs := [][]api.Ins{{{Op: api.Store, A: 1, B: 0}, {Op: api.Load, A: 2, B: 0}, {Op: api.Swap, A: 2, B: 0, C: 3}, halt}}
	for _, c := range []struct {
		words, at int
		place     uint32
	}{{1, 0, 0}, {1, 0, 1}, {1, 0, top}, {64, 0, 0}, {64, 63, 63}, {64, 0, 64}, {64, 6, 70}, {64, 63, top}} {
		a := first(1, c.words)
		a.Cores[0].Regs = [api.MaxRegs]uint32{c.place, 8, 0, 9}
		want := make(mem, c.words)
		for i, n := range []uint32{8, 8, 9} {
			var err api.Errno
			a, err = atom.Step(progs, a, 0)
			want[c.at] = n
			if err != api.OK || !slices.Equal(a.Mem, want) {
				t.Errorf("step %d at %d of %d words: %v, %d; want %v", i, c.place, c.words, a.Mem, err, want)
			}
		}
		if a.Cores[0].Regs[2] != 8 {
			t.Errorf("at %d of %d words: it read %d; want 8", c.place, c.words, a.Cores[0].Regs[2])
		}
	}
}

// noCores are numbers of which no machine has a core, some of which a narrower integer would take for one.
var noCores = []int{-1, -2, -4, 4, 5, 8, 256, 65536, math.MaxInt32, math.MinInt32, math.MaxInt, math.MinInt}

// asItIs holds Step to ErrArg, beside a machine as it is.
func asItIs(t *testing.T, what string, progs [][]api.Ins, a api.Atom, n int) {
	t.Helper()
	if got, err := atom.Step(progs, a, n); err != api.ErrArg || !alike(got, a) {
		t.Errorf("%s: Step of core %d = %+v, %d; want %+v as it is, and ErrArg", what, n, got, err, a)
	}
}

// P4.1: Step of a core that isn't there: below 0, as many as there are, and far off.
func TestStepOfNoCore(t *testing.T) {
	for many := 1; many <= api.MaxCores; many++ {
		progs := slices.Repeat([][]api.Ins{{{Op: api.Out}, loop}}, many)
		a := api.Atom{Mem: mem{3, 4}, Cores: slices.Repeat(cores{{Regs: regs}}, many), Outs: outs{{Val: 6}}}
		for _, n := range append([]int{many, many + 1}, noCores...) {
			asItIs(t, "no core", progs, a, n)
		}
		// There may be room for one more behind the last.
		a.Cores = append(a.Cores, api.Core{})[:many]
		asItIs(t, "spare room", append(progs, progs[0])[:many], a, many)
		if _, err := atom.Step(progs, a, many-1); err != api.OK {
			t.Errorf("Step of the last of %d = %d", many, err)
		}
	}
}

// wrongMachines are machines that may not be, of the programs {Out 0, Jump 0} and {Fence, Halt}.
var wrongMachines = []struct {
	name string
	a    api.Atom
}{
	{"nothing at all", api.Atom{}},
	{"no words", api.Atom{Cores: cores{{}, {}}, Outs: outs{{Val: 1}}}},
	{"empty words", api.Atom{Mem: mem{}, Cores: cores{{}, {}}}},
	{"one word too many", api.Atom{Mem: make(mem, 65), Cores: cores{{}, {}}}},
	{"words far too many", api.Atom{Mem: make(mem, 1000), Cores: cores{{}, {}}}},
	{"no cores", api.Atom{Mem: mem{1, 2}, Outs: outs{{Val: 1}}}},
	{"one core too few", api.Atom{Mem: mem{1, 2}, Cores: cores{{Regs: regs}}}},
	{"one core too many", api.Atom{Mem: mem{1, 2}, Cores: cores{{Regs: regs}, {}, {}}}},
	{"five cores", api.Atom{Mem: mem{1, 2}, Cores: make(cores, 5)}},
	{"the first behind its program", api.Atom{Mem: mem{1, 2}, Cores: cores{{Regs: regs, PC: 2}, {}}}},
	{"the first ahead of its program", api.Atom{Mem: mem{1, 2}, Cores: cores{{PC: -1}, {}}}},
	{"the last behind its program", api.Atom{Mem: mem{1, 2}, Cores: cores{{}, {PC: 2, Regs: regs}}, Outs: outs{{Core: 1}}}},
	{"the last ahead of its program", api.Atom{Mem: mem{1, 2}, Cores: cores{{}, {PC: math.MinInt}}}},
	{"one that has Halted, behind its program", api.Atom{Mem: mem{1, 2}, Cores: cores{{}, {PC: 2, Halted: true}}}},
}

// P4.1: Step of a machine that may not be answers it as it is, and ErrArg, whichever core is asked for.
func TestStepOfWrongMachines(t *testing.T) {
	progs := [][]api.Ins{{{Op: api.Out}, loop}, {fence, halt}}
	for _, w := range wrongMachines {
		if atom.Right(progs, w.a) {
			t.Errorf("%s: Right", w.name)
		}
		for n := -1; n <= 5; n++ {
			asItIs(t, w.name, progs, w.a, n)
		}
	}
}

// P4.1: Step with programs that may not be answers the machine as it is, and ErrArg.
func TestStepOfWrongPrograms(t *testing.T) {
	for _, w := range wrongs {
		for many := range len(w.progs) + 2 {
			a := api.Atom{Mem: mem{7, 8, 9}, Cores: slices.Repeat(cores{{Regs: regs}}, many), Outs: outs{{Core: 2, Val: 3}}}
			for n := -1; n <= many; n++ {
				asItIs(t, w.name, w.progs, a, n)
			}
		}
	}
}

// acts are wants of the words 11, 22 and 33, the words behind them, and the word that was there, by hand.
var acts = []struct {
	name string
	w    api.Want
	mem  mem
	was  uint32
}{
	{"Read of the first", api.Want{Kind: api.Read, At: 0}, mem{11, 22, 33}, 11},
	{"Read of the last", api.Want{Kind: api.Read, At: 2}, mem{11, 22, 33}, 33},
	{"Read, with more than it needs", api.Want{Kind: api.Read, At: 1, Val: 5, Old: 22}, mem{11, 22, 33}, 22},
	{"Write to the first", api.Want{Kind: api.Write, At: 0, Val: 5}, mem{5, 22, 33}, 11},
	{"Write to the last", api.Want{Kind: api.Write, At: 2, Val: top}, mem{11, 22, top}, 33},
	{"Write of 0", api.Want{Kind: api.Write, At: 1}, mem{11, 0, 33}, 22},
	{"Write, with an Old that it isn't", api.Want{Kind: api.Write, At: 1, Val: 5, Old: 11}, mem{11, 5, 33}, 22},
	{"Write of what is there", api.Want{Kind: api.Write, At: 1, Val: 22}, mem{11, 22, 33}, 22},
	{"Trade of the first, done", api.Want{Kind: api.Trade, At: 0, Val: 5, Old: 11}, mem{5, 22, 33}, 11},
	{"Trade of the last, done", api.Want{Kind: api.Trade, At: 2, Val: top, Old: 33}, mem{11, 22, top}, 33},
	{"Trade for 0, done", api.Want{Kind: api.Trade, At: 2, Old: 33}, mem{11, 22, 0}, 33},
	{"Trade of the first, not done", api.Want{Kind: api.Trade, At: 0, Val: 5, Old: 12}, mem{11, 22, 33}, 11},
	{"Trade of the last, not done", api.Want{Kind: api.Trade, At: 2, Val: 5, Old: 22}, mem{11, 22, 33}, 33},
	{"Trade, Val being the word, not done", api.Want{Kind: api.Trade, At: 1, Val: 22, Old: 5}, mem{11, 22, 33}, 22},
	{"Trade, but for one bit", api.Want{Kind: api.Trade, At: 1, Val: 5, Old: 22 | 1<<31}, mem{11, 22, 33}, 22},
	{"Nothing", api.Want{Kind: api.Nothing, At: 1, Val: 5, Old: 22}, mem{11, 22, 33}, 0},
	{"Tell", api.Want{Kind: api.Tell, At: 1, Val: 5, Old: 22}, mem{11, 22, 33}, 0},
	{"Rest", api.Want{Kind: api.Rest, At: 1, Val: 5, Old: 22}, mem{11, 22, 33}, 0},
	{"a kind above", api.Want{Kind: 6, At: 1, Val: 5, Old: 22}, mem{11, 22, 33}, 0},
	{"a kind below", api.Want{Kind: -1, At: 1, Val: 5, Old: 22}, mem{11, 22, 33}, 0},
	{"a kind that is Write in 8 bits", api.Want{Kind: 258, At: 1, Val: 5, Old: 22}, mem{11, 22, 33}, 0},
	{"a kind that is Write but for its sign", api.Want{Kind: -2, At: 1, Val: 5, Old: 22}, mem{11, 22, 33}, 0},
	{"a kind far off", api.Want{Kind: math.MaxInt, At: 1, Val: 5, Old: 22}, mem{11, 22, 33}, 0},
}

// P4.1: Act, of each kind and of kinds that are none.
func TestAct(t *testing.T) {
	for _, c := range acts {
		got, was := atom.Act(mem{11, 22, 33}, c.w)
		if !slices.Equal(got, c.mem) || was != c.was {
			t.Errorf("%s: Act = %v, %d; want %v, %d", c.name, got, was, c.mem, c.was)
		}
	}
}

// P4.1: Act at places that aren't there: below 0, behind the last, of no words at all, and in the spare room.
func TestActAtNoPlace(t *testing.T) {
	for _, l := range []mem{nil, {}, {7}, {7, 8, 9}, make(mem, 64), mem{7, 8, 9, 10, 11}[:2], mem{7}[:0]} {
		for _, at := range []int{len(l), len(l) + 1, -1, -2, 100, 256, math.MaxInt, math.MinInt} {
			for kind := -1; kind <= 6; kind++ {
				for _, old := range []uint32{0, 7, 9} {
					got, was := atom.Act(l, api.Want{Kind: kind, At: at, Val: 5, Old: old})
					if was != 0 || !slices.Equal(got, l) {
						t.Errorf("Act of kind %d at %d of %v = %v, %d", kind, at, l, got, was)
					}
				}
			}
		}
	}
}

// P4.1: Act at each place of memories of many sizes, those of more words than a machine may have among them.
func TestActAtEachPlace(t *testing.T) {
	for _, words := range []int{1, 2, 63, 64, 65, 300} {
		for at := range words {
			l := make(mem, words)
			for i := range l {
				l[i] = uint32(1000 + i)
			}
			written := slices.Clone(l)
			written[at] = 3
			was := uint32(1000 + at)
			for _, c := range []struct {
				w    api.Want
				want mem
			}{
				{api.Want{Kind: api.Read, At: at, Val: 3}, l},
				{api.Want{Kind: api.Write, At: at, Val: 3}, written},
				{api.Want{Kind: api.Trade, At: at, Val: 3, Old: was}, written},
				{api.Want{Kind: api.Trade, At: at, Val: 3, Old: was + 1}, l},
			} {
				if got, n := atom.Act(l, c.w); n != was || !slices.Equal(got, c.want) {
					t.Fatalf("Act of %+v on %d words = %v, %d", c.w, words, got, n)
				}
			}
		}
	}
}

// P4.1: Over, of no cores, of some that have Halted, and of all.
func TestOver(t *testing.T) {
	for _, l := range []cores{nil, {}, cores{{}}[:0]} {
		if !atom.Over(api.Atom{Mem: mem{1}, Cores: l}) {
			t.Error("of no core it may be said that it hasn't Halted")
		}
	}
	for many := 1; many <= api.MaxCores+2; many++ {
		for which := range 1 << many {
			a := first(many, 3)
			for n := range many {
				a.Cores[n] = api.Core{Regs: regs, PC: n, Halted: which>>n&1 == 1}
			}
			if got := atom.Over(a); got != (which == 1<<many-1) {
				t.Errorf("Over of %d cores, by bits %b = %t", many, which, got)
			}
		}
	}
}

// P4.1: Run passes by picks that are no core's, wherever they stand.
func TestRunPassesBy(t *testing.T) {
	progs := [][]api.Ins{{{Op: api.Out, A: 1}, loop}, {{Op: api.Set, A: 1, K: 6}, {Op: api.Out, A: 1}, loop}}
	for _, c := range []struct {
		picks []int
		told  outs
	}{
		{nil, nil},
		{[]int{}, nil},
		{noCores, nil},
		{[]int{2, -1}, nil},
		{[]int{0}, outs{{Core: 0, Val: 0}}},
		{[]int{1, 1}, outs{{Core: 1, Val: 6}}},
		{[]int{2, 0, -1, 1, 99, 1, 2}, outs{{Core: 0, Val: 0}, {Core: 1, Val: 6}}},
		{[]int{1, -1, 1, math.MinInt, 0, math.MaxInt}, outs{{Core: 1, Val: 6}, {Core: 0, Val: 0}}},
		{[]int{0, 0, 0, 1, 1, 1, 1}, outs{{Core: 0, Val: 0}, {Core: 0, Val: 0}, {Core: 1, Val: 6}}},
	} {
		got, err := atom.Run(progs, 3, c.picks)
		if err != api.OK || !slices.Equal(got.Outs, c.told) {
			t.Errorf("Run of %v told %v, %d; want %v", c.picks, got.Outs, err, c.told)
		}
		if len(c.told) == 0 && !alike(got, first(2, 3)) {
			t.Errorf("Run of %v = %+v; want it at first", c.picks, got)
		}
	}
}

// P4.1: two cores meet at one word: who trades first has it, and the other sees that.
func TestTwoCoresMeet(t *testing.T) {
	p := func(own uint32) []api.Ins {
		return []api.Ins{{Op: api.Set, A: 2, K: own}, {Op: api.Swap, A: 1, B: 0, C: 2}, {Op: api.Out, A: 1}, halt}
	}
	progs := [][]api.Ins{p(8), p(9)}
	for _, c := range []struct {
		picks []int
		word  uint32
		told  outs
	}{
		{[]int{0, 0, 1, 1, 1, 0}, 8, outs{{Core: 1, Val: 8}, {Core: 0, Val: 0}}},
		{[]int{0, 1, 1, 0, 0, 1}, 9, outs{{Core: 0, Val: 9}, {Core: 1, Val: 0}}},
		{[]int{0, 0, 0, 1, 1, 1}, 8, outs{{Core: 0, Val: 0}, {Core: 1, Val: 8}}},
	} {
		got, err := atom.Run(progs, 1, c.picks)
		if err != api.OK || got.Mem[0] != c.word || !slices.Equal(got.Outs, c.told) {
			t.Errorf("Run of %v = %+v, %d; want %d and %v", c.picks, got, err, c.word, c.told)
		}
	}
}

// P4.1: Run of many picks tells all of them, in their order.
func TestLongRun(t *testing.T) {
	p := []api.Ins{{Op: api.Set, A: 1, K: 1}, {Op: api.Add, A: 0, B: 0, C: 1}, {Op: api.Out, A: 0}, {Op: api.Jump, K: 1}}
	const rounds = 20000
	picks := make([]int, 1+3*rounds)
	got, err := atom.Run([][]api.Ins{p}, 1, picks)
	if err != api.OK || len(got.Outs) != rounds {
		t.Fatalf("Run told %d, %d; want %d", len(got.Outs), err, rounds)
	}
	for i, o := range got.Outs {
		if o != (api.Told{Val: uint32(i + 1)}) {
			t.Fatalf("told at %d: %+v", i, o)
		}
	}
}

// roomy is a machine with spare room in all its lists, and the whole of these.
func roomy() (api.Atom, api.Atom) {
	whole := api.Atom{
		Mem:   mem{11, 22, 33, 44, 55},
		Cores: cores{{Regs: regs}, {Regs: regs}, {PC: 77}, {PC: 78}},
		Outs:  outs{{Core: 0, Val: 1}, {Core: 1, Val: 2}, {Core: 7, Val: 7}, {Core: 8, Val: 8}},
	}
	return api.Atom{Mem: whole.Mem[:3], Cores: whole.Cores[:2], Outs: whole.Outs[:2]}, whole
}

// Rule 3: nothing of what is handed in is changed, its spare room neither.
func TestLeavesWhatItIsGiven(t *testing.T) {
	for _, s := range steps {
		progs := [][]api.Ins{append(slices.Clone(s.p), halt, fence)[:len(s.p)], {{Op: api.Store}, {Op: api.Out}, halt}, {{Op: 99}}}
		before := slices.Clone(progs)
		for i := range before {
			before[i] = slices.Clone(before[i][:cap(before[i])])
		}
		picks := []int{0, 1, 0, 9, 1, 1, 5, 6}
		for n := -1; n <= 2; n++ {
			a, whole := roomy()
			same := copied(whole)
			atom.Right(progs[:2], a)
			atom.Step(progs[:2], a, n)
			atom.Step(progs, a, n)
			atom.Over(a)
			atom.New(progs[:2], 3)
			atom.Run(progs[:2], 3, picks[:6])
			if !alike(whole, same) || !slices.Equal(picks, []int{0, 1, 0, 9, 1, 1, 5, 6}) {
				t.Fatalf("%s: what was given became %+v, %v", s.name, whole, picks)
			}
			for i := range progs {
				if !slices.Equal(progs[i][:cap(progs[i])], before[i]) {
					t.Fatalf("%s: program %d became %v", s.name, i, progs[i])
				}
			}
		}
	}
	for _, c := range acts {
		whole := mem{11, 22, 33, 44}
		atom.Act(whole[:3], c.w)
		if !slices.Equal(whole, mem{11, 22, 33, 44}) {
			t.Fatalf("%s: the words that were given became %v", c.name, whole)
		}
	}
}

// spoil writes over all of a machine's lists, their spare room too.
func spoil(a api.Atom) {
	for i := range a.Mem[:cap(a.Mem)] {
		a.Mem[:cap(a.Mem)][i] = 666
	}
	for i := range a.Cores[:cap(a.Cores)] {
		a.Cores[:cap(a.Cores)][i] = api.Core{PC: 666}
	}
	for i := range a.Outs[:cap(a.Outs)] {
		a.Outs[:cap(a.Outs)][i] = api.Told{Core: 666}
	}
}

// Rule 3: an answer is new memory: who writes into it changes nothing that was handed in, whether or not there was an error.
func TestAnswersAreNew(t *testing.T) {
	for _, s := range steps {
		for _, n := range []int{-1, 0, 1, 2} {
			for _, progs := range [][][]api.Ins{{s.p, {fence, halt}}, {s.p}, nil} {
				a, whole := roomy()
				same := copied(whole)
				got, _ := atom.Step(progs, a, n)
				spoil(got)
				if !alike(whole, same) {
					t.Fatalf("%s: the answer to Step of core %d is what was given", s.name, n)
				}
			}
		}
	}
	for _, c := range acts {
		for _, at := range []int{c.w.At, -1, 3} {
			whole := mem{11, 22, 33, 44}
			c.w.At = at
			got, _ := atom.Act(whole[:3], c.w)
			spoil(api.Atom{Mem: got})
			if !slices.Equal(whole, mem{11, 22, 33, 44}) {
				t.Fatalf("%s: the answer to Act is what was given", c.name)
			}
		}
	}
}

// Rules 3 and 4: nothing is kept: what was answered once is answered again, though the first answer was written over.
func TestNothingIsKept(t *testing.T) {
	for _, s := range steps {
		progs := [][]api.Ins{s.p, {{Op: api.Out, A: 1}, halt}}
		picks := []int{1, 0, 0, 1}
		ran, _ := atom.Run(progs, 3, picks)
		made, _ := atom.New(progs, 3)
		same := copied(ran)
		spoil(ran)
		spoil(made)
		if got, err := atom.New(progs, 3); err != api.OK || !alike(got, first(2, 3)) {
			t.Errorf("%s: New the second time = %+v, %d", s.name, got, err)
		}
		if got, err := atom.Run(progs, 3, picks); err != api.OK || !alike(got, same) {
			t.Errorf("%s: Run the second time = %+v, %d; want %+v", s.name, got, err, same)
		}
	}
}

// lot gives numbers below n that look drawn, the same ones each time.
func lot(state uint64) func(n int) int {
	return func(n int) int {
		state = state*6364136223846793005 + 1442695040888963407
		return int(state>>33) % n
	}
}

// number is one that is often an edge, so that words and registers are alike, and 0, not seldom.
func number(draw func(n int) int) uint32 {
	if draw(4) > 0 {
		return []uint32{0, 0, 1, 2, 63, 64, 1 << 31, top}[draw(8)]
	}
	return uint32(draw(1<<16)<<16 | draw(1<<16))
}

// drawnIns is an instruction that may be in a program of so many.
func drawnIns(draw func(n int) int, op, many int) api.Ins {
	a, b, c := draw(3), draw(api.MaxRegs), draw(3)
	switch op {
	case api.Set:
		return api.Ins{Op: op, A: a, K: number(draw)}
	case api.Load, api.Store:
		return api.Ins{Op: op, A: a, B: b}
	case api.Fence, api.Halt:
		return api.Ins{Op: op}
	case api.Jump:
		return api.Ins{Op: op, K: uint32(draw(many))}
	case api.Zero:
		return api.Ins{Op: op, A: a, K: uint32(draw(many))}
	case api.Out:
		return api.Ins{Op: op, A: a}
	}
	return api.Ins{Op: op, A: a, B: b, C: c}
}

// drawnPrograms are programs that may be, of which some soon end.
func drawnPrograms(draw func(n int) int) [][]api.Ins {
	progs := make([][]api.Ins, 1+draw(api.MaxCores))
	for i := range progs {
		p := make([]api.Ins, 1+draw(16))
		for k := range p {
			p[k] = drawnIns(draw, 1+draw(api.Out), len(p))
		}
		p[len(p)-1] = []api.Ins{halt, halt, loop}[draw(3)]
		progs[i] = p
	}
	return progs
}

// drawnMachine is one of these programs that may be.
func drawnMachine(draw func(n int) int, progs [][]api.Ins) api.Atom {
	a := first(len(progs), []int{1, 2, 3, 64, 1 + draw(64)}[draw(5)])
	for i := range a.Mem {
		a.Mem[i] = number(draw)
	}
	for n := range a.Cores {
		a.Cores[n].PC = draw(len(progs[n]))
		a.Cores[n].Halted = draw(8) == 0
		for r := range a.Cores[n].Regs {
			a.Cores[n].Regs[r] = number(draw)
		}
	}
	for range draw(3) {
		a.Outs = append(a.Outs, api.Told{Core: draw(len(progs)), Val: number(draw)})
	}
	return a
}

// counted is what the document asks of layer 1's operations, worked out in 64 bits.
func counted(op int, b, c uint64) uint32 {
	switch op {
	case api.Add:
		return uint32((b + c) % (1 << 32))
	case api.Sub:
		return uint32((1<<32 + b - c) % (1 << 32))
	case api.Mul:
		return uint32((b * c) % (1 << 32))
	case api.And:
		return uint32(b & c)
	case api.Xor:
		return uint32((b | c) - (b & c))
	}
	if op == api.Eq && b == c || op == api.Lt && b < c {
		return 1
	}
	return 0
}

// asked is a machine behind a step of core n, as the document asks it, told Op by Op; and what kind of step it was.
func asked(progs [][]api.Ins, old api.Atom, n int) (api.Atom, string) {
	a := copied(old)
	c := &a.Cores[n]
	if c.Halted {
		return a, "none"
	}
	x := progs[n][c.PC]
	word := &a.Mem[c.Regs[x.B]%uint32(len(a.Mem))]
	was := *word
	c.PC++
	switch x.Op {
	case api.Halt:
		c.PC--
		c.Halted = true
		return a, "Halt"
	case api.Jump:
		c.PC = int(x.K)
	case api.Zero:
		if c.Regs[x.A] == 0 {
			c.PC = int(x.K)
		}
	case api.Set:
		c.Regs[x.A] = x.K
	case api.Load:
		c.Regs[x.A] = was
		return a, "Read"
	case api.Store:
		*word = c.Regs[x.A]
		return a, "Write"
	case api.Swap:
		isOld := was == c.Regs[x.A]
		if isOld {
			*word = c.Regs[x.C]
		}
		c.Regs[x.A] = was
		return a, map[bool]string{true: "Trade, done", false: "Trade, not done"}[isOld]
	case api.Out:
		a.Outs = append(a.Outs, api.Told{Core: n, Val: c.Regs[x.A]})
		return a, "Tell"
	case api.Fence:
	default:
		c.Regs[x.A] = counted(x.Op, uint64(c.Regs[x.B]), uint64(c.Regs[x.C]))
	}
	return a, "Nothing"
}

// P4.1: Step, at drawn machines.
func TestDrawnSteps(t *testing.T) {
	draw := lot(4)
	seen := map[string]int{}
	for range 30000 {
		progs := drawnPrograms(draw)
		a := drawnMachine(draw, progs)
		if !atom.Right(progs, a) {
			t.Fatalf("%+v of %v may be, but is not Right", a, progs)
		}
		n := draw(len(progs))
		want, kind := asked(progs, a, n)
		seen[kind]++
		got, err := atom.Step(progs, a, n)
		if err != api.OK || !alike(got, want) {
			t.Fatalf("Step of core %d of %+v, by %v = %+v, %d; want %+v", n, a, progs[n], got, err, want)
		}
	}
	for _, kind := range []string{"none", "Halt", "Nothing", "Read", "Write", "Trade, done", "Trade, not done", "Tell"} {
		if seen[kind] < 100 {
			t.Errorf("%s was drawn %d times: too few", kind, seen[kind])
		}
	}
}

// P4.1: Run, at drawn programs and picks, is what its steps are, one behind the other, from New on.
func TestDrawnRuns(t *testing.T) {
	draw := lot(5)
	for range 2000 {
		progs := drawnPrograms(draw)
		words := 1 + draw(api.MaxMem)
		picks := make([]int, draw(60))
		want := first(len(progs), words)
		stepped, _ := atom.New(progs, words)
		for i := range picks {
			picks[i] = draw(len(progs)+4) - 2
			if picks[i] >= 0 && picks[i] < len(progs) {
				want, _ = asked(progs, want, picks[i])
				stepped, _ = atom.Step(progs, stepped, picks[i])
			}
		}
		got, err := atom.Run(progs, words, picks)
		if err != api.OK || !alike(got, want) || !alike(stepped, want) {
			t.Fatalf("Run of %v, %d words, by %v = %+v, %d; its steps are %+v; want %+v", progs, words, picks, got, err, stepped, want)
		}
	}
}

// P4.2: step by step, what is told stays told; only the core that is picked is changed; a machine that may be stays one; once all have Halted nothing is changed.
func TestStays(t *testing.T) {
	draw := lot(6)
	over, told := 0, 0
	for range 1500 {
		progs := drawnPrograms(draw)
		a := drawnMachine(draw, progs)
		for range 120 {
			n := draw(len(progs))
			next, err := atom.Step(progs, a, n)
			if err != api.OK || !atom.Right(progs, next) {
				t.Fatalf("%+v may be, but became %+v, %d", a, next, err)
			}
			if len(next.Outs) < len(a.Outs) || !slices.Equal(next.Outs[:len(a.Outs)], a.Outs) {
				t.Fatalf("%v was told, then %v", a.Outs, next.Outs)
			}
			for k := range a.Cores {
				if k != n && next.Cores[k] != a.Cores[k] {
					t.Fatalf("a step of core %d changed core %d from %+v to %+v", n, k, a.Cores[k], next.Cores[k])
				}
			}
			if atom.Over(a) && !alike(next, a) {
				t.Fatalf("%+v is over, but became %+v", a, next)
			}
			told += len(next.Outs) - len(a.Outs)
			a = next
		}
		if atom.Over(a) {
			over++
		}
	}
	// Without these in number the test would tell little.
	if over < 200 || told < 3000 {
		t.Errorf("%d were over, and %d numbers were told: too few", over, told)
	}
}

// P4.2: once all have Halted, more picks change nothing of a run; each of its beginnings told a beginning of what it tells.
func TestRunsGoOn(t *testing.T) {
	draw := lot(7)
	over := 0
	for range 300 {
		progs := drawnPrograms(draw)
		picks := make([]int, 150)
		for i := range picks {
			picks[i] = draw(len(progs)+1) - 1
		}
		last, _ := atom.New(progs, 8)
		for many := range len(picks) + 1 {
			got, err := atom.Run(progs, 8, picks[:many])
			if err != api.OK || len(got.Outs) < len(last.Outs) || !slices.Equal(got.Outs[:len(last.Outs)], last.Outs) {
				t.Fatalf("Run of %d picks told %v, %d, of one less %v", many, got.Outs, err, last.Outs)
			}
			if atom.Over(last) && !alike(got, last) {
				t.Fatalf("%+v is over, but became %+v", last, got)
			}
			last = got
		}
		if atom.Over(last) {
			over++
		}
	}
	if over < 50 {
		t.Errorf("%d were over: too few", over)
	}
}
