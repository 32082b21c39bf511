package core_test

import (
	"math"
	"slices"
	"testing"

	"backstay/api"
	"backstay/core"
)

const top = math.MaxUint32

var (
	fence = api.Ins{Op: api.Fence}
	halt  = api.Ins{Op: api.Halt}
)

// regs differ from each other, so that a register taken for another shows; none is 0, and none but the first is below 64.
var regs = [api.MaxRegs]uint32{5, 70, 1000, 1 << 31, top, 129, 77777, 4000000000}

// wrongs are programs that may not be, of which some would be of use to a core that did not ask.
var wrongs = []struct {
	name string
	p    []api.Ins
}{
	{"nil", nil},
	{"empty", []api.Ins{}},
	{"its end is no end", []api.Ins{fence}},
	{"its end may be passed", []api.Ins{fence, {Op: api.Zero}}},
	{"one too long", filled(api.MaxProg+1, api.Ins{Op: api.Out}, halt)},
	{"one too long, of jumps", filled(api.MaxProg+1, api.Ins{Op: api.Jump}, api.Ins{Op: api.Jump})},
	{"much too long", filled(1000, api.Ins{Op: api.Load}, halt)},
	{"no operation first", []api.Ins{{}, halt}},
	{"no operation last", []api.Ins{{Op: api.Out}, {}}},
	{"no operation behind", []api.Ins{{Op: api.Out}, {Op: 17}, halt}},
	{"a register too high", []api.Ins{{Op: api.Load, A: 8}, halt}},
	{"a place's register too high", []api.Ins{{Op: api.Store, B: 8}, halt}},
	{"a register below 0", []api.Ins{{Op: api.Swap, C: -1}, halt}},
	{"a register far off", []api.Ins{{Op: api.Out, A: math.MaxInt}, halt}},
	{"a register that isn't used", []api.Ins{{Op: api.Set, B: 1, K: 9}, halt}},
	{"a number that isn't used", []api.Ins{{Op: api.Out, K: 1}, halt}},
	{"a jump one too far", []api.Ins{{Op: api.Jump, K: 2}, halt}},
	{"a jump far off", []api.Ins{{Op: api.Zero, K: top}, halt}},
	{"a wrong one that isn't come to", []api.Ins{{Op: api.Set, K: 9}, halt, {Op: api.Jump, K: 4}, halt}},
}

// filled is a program of so many, all alike but the last one.
func filled(many int, x, last api.Ins) []api.Ins {
	p := slices.Repeat([]api.Ins{x}, many)
	p[many-1] = last
	return p
}

// with is regs with register r being n.
func with(r int, n uint32) [api.MaxRegs]uint32 {
	l := regs
	l[r] = n
	return l
}

// right holds Right to an answer.
func right(t *testing.T, what string, p []api.Ins, c api.Core, want bool) {
	t.Helper()
	if got := core.Right(p, c); got != want {
		t.Errorf("%s: Right of %d instructions and %+v = %t; want %t", what, len(p), c, got, want)
	}
}

// wants holds Wants to an answer.
func wants(t *testing.T, what string, p []api.Ins, c api.Core, words int, want api.Want) {
	t.Helper()
	if got := core.Wants(p, c, words); got != want {
		t.Errorf("%s: Wants of %+v, of %d words = %+v; want %+v", what, c, words, got, want)
	}
}

// done holds Done to an answer.
func done(t *testing.T, what string, p []api.Ins, c api.Core, was uint32, want api.Core) {
	t.Helper()
	if got := core.Done(p, c, was); got != want {
		t.Errorf("%s: Done of %+v, with %d = %+v; want %+v", what, c, was, got, want)
	}
}

// rests holds a core to wanting Rest and staying as it is.
func rests(t *testing.T, what string, p []api.Ins, c api.Core) {
	t.Helper()
	for _, words := range []int{-1, 0, 1, 64} {
		wants(t, what, p, c, words, api.Want{Kind: api.Rest})
	}
	for _, was := range []uint32{0, 9, top} {
		done(t, what, p, c, was, c)
	}
}

// P3.1: Right, at each place of and around a program of each length; registers, and having Halted, are all one to it.
func TestRight(t *testing.T) {
	for many := 1; many <= api.MaxProg; many++ {
		for _, p := range [][]api.Ins{filled(many, fence, halt), filled(many, fence, api.Ins{Op: api.Jump})} {
			for pc := -3; pc <= many+3; pc++ {
				want := pc >= 0 && pc < many
				right(t, "plain", p, api.Core{PC: pc}, want)
				right(t, "with registers", p, api.Core{PC: pc, Regs: regs}, want)
				right(t, "Halted", p, api.Core{PC: pc, Halted: true}, want)
			}
		}
	}
}

// far are places that are none of any program, some of which a narrower integer would take for one.
var far = []int{-1, -2, -64, 64, 65, 256, 65536, math.MaxInt32, math.MinInt32, math.MaxInt, math.MinInt, math.MinInt + 1}

// P3.1: Right, Wants and Done, at places that are far off, and in the spare room of a program.
func TestPlacesThatAreNone(t *testing.T) {
	room := []api.Ins{{Op: api.Set, A: 1, K: 3}, {Op: api.Jump}, {Op: api.Set, A: 2, K: 4}, halt}
	for _, p := range [][]api.Ins{{halt}, room[:2], room, filled(api.MaxProg, api.Ins{Op: api.Out}, halt)} {
		for _, pc := range append([]int{len(p), len(p) + 1}, far...) {
			if pc >= 0 && pc < len(p) {
				t.Fatalf("%d is a place of %d", pc, len(p))
			}
			for _, halted := range []bool{false, true} {
				c := api.Core{Regs: regs, PC: pc, Halted: halted}
				right(t, "no place", p, c, false)
				rests(t, "no place", p, c)
			}
		}
	}
}

// P3.1: Right, Wants and Done, with a program that may not be, at its places and around them.
func TestProgramsThatMayNotBe(t *testing.T) {
	for _, w := range wrongs {
		for pc := -2; pc <= len(w.p)+2; pc++ {
			for _, halted := range []bool{false, true} {
				for _, l := range [][api.MaxRegs]uint32{{}, regs} {
					c := api.Core{Regs: l, PC: pc, Halted: halted}
					right(t, w.name, w.p, c, false)
					rests(t, w.name, w.p, c)
				}
			}
		}
	}
}

// steps are instructions of each Op, what a core with regs wants by them of 64 words, and what its registers are behind them, with 9 as the word; all worked out by hand.
var steps = []struct {
	name string
	x    api.Ins
	want api.Want
	regs [api.MaxRegs]uint32
}{
	{"Set", api.Ins{Op: api.Set, A: 2, K: 44}, api.Want{}, with(2, 44)},
	{"Set to 0", api.Ins{Op: api.Set, A: 0}, api.Want{}, with(0, 0)},
	{"Set the last to the most", api.Ins{Op: api.Set, A: 7, K: top}, api.Want{}, with(7, top)},
	{"Add", api.Ins{Op: api.Add, A: 2, B: 0, C: 1}, api.Want{}, with(2, 75)},
	{"Add, going round", api.Ins{Op: api.Add, A: 2, B: 4, C: 0}, api.Want{}, with(2, 4)},
	{"Add, A as B", api.Ins{Op: api.Add, A: 0, B: 0, C: 1}, api.Want{}, with(0, 75)},
	{"Add, A as C", api.Ins{Op: api.Add, A: 1, B: 0, C: 1}, api.Want{}, with(1, 75)},
	{"Add, all one", api.Ins{Op: api.Add, A: 1, B: 1, C: 1}, api.Want{}, with(1, 140)},
	{"Sub", api.Ins{Op: api.Sub, A: 3, B: 1, C: 0}, api.Want{}, with(3, 65)},
	{"Sub, going round", api.Ins{Op: api.Sub, A: 3, B: 0, C: 1}, api.Want{}, with(3, top-64)},
	{"Sub, A as B", api.Ins{Op: api.Sub, A: 1, B: 1, C: 0}, api.Want{}, with(1, 65)},
	{"Sub, A as C", api.Ins{Op: api.Sub, A: 0, B: 1, C: 0}, api.Want{}, with(0, 65)},
	{"Sub, all one", api.Ins{Op: api.Sub, A: 5, B: 5, C: 5}, api.Want{}, with(5, 0)},
	{"Mul", api.Ins{Op: api.Mul, A: 6, B: 0, C: 1}, api.Want{}, with(6, 350)},
	{"Mul, going round", api.Ins{Op: api.Mul, A: 6, B: 3, C: 5}, api.Want{}, with(6, 1<<31)},
	{"And", api.Ins{Op: api.And, A: 7, B: 1, C: 2}, api.Want{}, with(7, 64)},
	{"Xor", api.Ins{Op: api.Xor, A: 7, B: 0, C: 1}, api.Want{}, with(7, 67)},
	{"Eq of unlike", api.Ins{Op: api.Eq, A: 2, B: 0, C: 1}, api.Want{}, with(2, 0)},
	{"Eq of like", api.Ins{Op: api.Eq, A: 2, B: 4, C: 4}, api.Want{}, with(2, 1)},
	{"Lt, below", api.Ins{Op: api.Lt, A: 2, B: 0, C: 4}, api.Want{}, with(2, 1)},
	{"Lt, above", api.Ins{Op: api.Lt, A: 2, B: 4, C: 0}, api.Want{}, with(2, 0)},
	{"Load", api.Ins{Op: api.Load, A: 2, B: 0}, api.Want{Kind: api.Read, At: 5}, with(2, 9)},
	{"Load, going round", api.Ins{Op: api.Load, A: 0, B: 1}, api.Want{Kind: api.Read, At: 6}, with(0, 9)},
	{"Load, A as B", api.Ins{Op: api.Load, A: 1, B: 1}, api.Want{Kind: api.Read, At: 6}, with(1, 9)},
	{"Load at the most", api.Ins{Op: api.Load, A: 7, B: 4}, api.Want{Kind: api.Read, At: 63}, with(7, 9)},
	{"Store", api.Ins{Op: api.Store, A: 2, B: 0}, api.Want{Kind: api.Write, At: 5, Val: 1000}, regs},
	{"Store, going round", api.Ins{Op: api.Store, A: 4, B: 5}, api.Want{Kind: api.Write, At: 1, Val: top}, regs},
	{"Store, A as B", api.Ins{Op: api.Store, A: 1, B: 1}, api.Want{Kind: api.Write, At: 6, Val: 70}, regs},
	{"Swap", api.Ins{Op: api.Swap, A: 2, B: 1, C: 3}, api.Want{Kind: api.Trade, At: 6, Val: 1 << 31, Old: 1000}, with(2, 9)},
	{"Swap, A as B", api.Ins{Op: api.Swap, A: 1, B: 1, C: 2}, api.Want{Kind: api.Trade, At: 6, Val: 1000, Old: 70}, with(1, 9)},
	{"Swap, A as C", api.Ins{Op: api.Swap, A: 2, B: 0, C: 2}, api.Want{Kind: api.Trade, At: 5, Val: 1000, Old: 1000}, with(2, 9)},
	{"Swap, B as C", api.Ins{Op: api.Swap, A: 7, B: 5, C: 5}, api.Want{Kind: api.Trade, At: 1, Val: 129, Old: 4000000000}, with(7, 9)},
	{"Swap, all one", api.Ins{Op: api.Swap, A: 5, B: 5, C: 5}, api.Want{Kind: api.Trade, At: 1, Val: 129, Old: 129}, with(5, 9)},
	{"Fence", api.Ins{Op: api.Fence}, api.Want{}, regs},
	{"Zero, of another number", api.Ins{Op: api.Zero, A: 0}, api.Want{}, regs},
	{"Out", api.Ins{Op: api.Out, A: 0}, api.Want{Kind: api.Tell, Val: 5}, regs},
	{"Out, the last", api.Ins{Op: api.Out, A: 7}, api.Want{Kind: api.Tell, Val: 4000000000}, regs},
}

// P3.1: Wants and Done, each Op that goes on to the next one, wherever it stands.
func TestSteps(t *testing.T) {
	for _, s := range steps {
		for _, many := range []int{2, 3, 64} {
			for _, at := range []int{0, (many - 1) / 2, many - 2} {
				p := filled(many, fence, halt)
				p[at] = s.x
				c := api.Core{Regs: regs, PC: at}
				right(t, s.name, p, c, true)
				wants(t, s.name, p, c, 64, s.want)
				done(t, s.name, p, c, 9, api.Core{Regs: s.regs, PC: at + 1})
			}
		}
	}
}

// P3.1: a core that has Halted rests at each instruction, whatever that wants of others.
func TestHaltedRests(t *testing.T) {
	for _, s := range steps {
		p := []api.Ins{fence, s.x, {Op: api.Jump, K: 1}, halt}
		for pc := -2; pc <= len(p)+2; pc++ {
			rests(t, s.name, p, api.Core{Regs: regs, PC: pc, Halted: true})
			rests(t, s.name, p, api.Core{PC: pc, Halted: true})
		}
	}
}

// P3.1: Halt wants Rest; the core has Halted of it, and stands there still.
func TestHalt(t *testing.T) {
	for _, many := range []int{1, 2, 64} {
		for _, at := range []int{0, many / 2, many - 1} {
			p := filled(many, fence, halt)
			p[at] = halt
			c := api.Core{Regs: regs, PC: at}
			wants(t, "Halt", p, c, 64, api.Want{Kind: api.Rest})
			behind := api.Core{Regs: regs, PC: at, Halted: true}
			done(t, "Halt", p, c, 9, behind)
			rests(t, "behind Halt", p, behind)
		}
	}
}

// P3.1: Jump goes to the first, the last and each other place, from wherever; it changes no register.
func TestJump(t *testing.T) {
	for _, many := range []int{1, 2, 3, 64} {
		for at := range many {
			for to := range many {
				p := filled(many, fence, halt)
				p[at] = api.Ins{Op: api.Jump, K: uint32(to)}
				for _, l := range [][api.MaxRegs]uint32{{}, regs} {
					c := api.Core{Regs: l, PC: at}
					wants(t, "Jump", p, c, 64, api.Want{})
					done(t, "Jump", p, c, 9, api.Core{Regs: l, PC: to})
				}
			}
		}
	}
}

// P3.1: Zero goes to the first, the last and each other place, if its own register is 0; else on by one.
func TestZero(t *testing.T) {
	for _, many := range []int{2, 3, 64} {
		for at := range many - 1 {
			for to := range many {
				r := to % api.MaxRegs
				p := filled(many, fence, halt)
				p[at] = api.Ins{Op: api.Zero, A: r, K: uint32(to)}
				c := api.Core{Regs: with(r, 0), PC: at}
				wants(t, "Zero of 0", p, c, 64, api.Want{})
				done(t, "Zero of 0", p, c, 9, api.Core{Regs: with(r, 0), PC: to})
				for _, n := range []uint32{1, 2, 256, 65536, 1 << 31, top} {
					alone := [api.MaxRegs]uint32{}
					alone[r] = n
					done(t, "Zero of another", p, api.Core{Regs: alone, PC: at}, 0, api.Core{Regs: alone, PC: at + 1})
				}
			}
		}
	}
}

// P3.1: the place goes round memories of any size; without a word it is 0.
func TestPlaces(t *testing.T) {
	for _, c := range []struct {
		n         uint32
		words, at int
	}{
		{70, 64, 6}, {0, 64, 0}, {63, 64, 63}, {64, 64, 0}, {65, 64, 1}, {top, 64, 63}, {1 << 31, 64, 0},
		{0, 1, 0}, {1, 1, 0}, {70, 1, 0}, {top, 1, 0},
		{70, 3, 1}, {top, 10, 5}, {70, 70, 0}, {70, 71, 70}, {1 << 31, 3, 2}, {70, math.MaxInt, 70},
		{70, 0, 0}, {70, -1, 0}, {70, -64, 0}, {top, -3, 0}, {top, math.MinInt32, 0}, {top, math.MinInt, 0},
	} {
		p := []api.Ins{{Op: api.Load, A: 1, B: 6}, {Op: api.Store, A: 1, B: 6}, {Op: api.Swap, A: 1, B: 6, C: 2}, {Op: api.Out, A: 6}, halt}
		l := with(6, c.n)
		wants(t, "Load", p, api.Core{Regs: l, PC: 0}, c.words, api.Want{Kind: api.Read, At: c.at})
		wants(t, "Store", p, api.Core{Regs: l, PC: 1}, c.words, api.Want{Kind: api.Write, At: c.at, Val: 70})
		wants(t, "Swap", p, api.Core{Regs: l, PC: 2}, c.words, api.Want{Kind: api.Trade, At: c.at, Val: 1000, Old: 70})
		wants(t, "Out", p, api.Core{Regs: l, PC: 3}, c.words, api.Want{Kind: api.Tell, Val: c.n})
		wants(t, "Halt", p, api.Core{Regs: l, PC: 4}, c.words, api.Want{Kind: api.Rest})
	}
}

// P3.1: the chapter's example.
func TestExample(t *testing.T) {
	p := []api.Ins{{Op: api.Load, A: 1, B: 0}, halt}
	wants(t, "the example", p, api.Core{Regs: [api.MaxRegs]uint32{70}}, 64, api.Want{Kind: api.Read, At: 6})
}

// P3.1: register A becomes the word of Load and of Swap, whether or not Swap's word was the one it is held against; of no other Op.
func TestWordThatWasThere(t *testing.T) {
	for _, was := range []uint32{0, 1, 9, 70, 1000, 1 << 31, top} {
		for _, s := range steps {
			p := []api.Ins{s.x, halt}
			behind := s.regs
			if s.x.Op == api.Load || s.x.Op == api.Swap {
				behind[s.x.A] = was
			}
			done(t, s.name, p, api.Core{Regs: regs}, was, api.Core{Regs: behind, PC: 1})
		}
	}
}

// Rule 3: nothing of what is handed in is changed, its spare room neither.
func TestLeavesWhatItIsGiven(t *testing.T) {
	for _, s := range steps {
		whole := []api.Ins{s.x, halt, {Op: 77, A: -3, K: 12}, fence}
		before := slices.Clone(whole)
		for many := range len(whole) + 1 {
			for pc := -1; pc <= many; pc++ {
				c := api.Core{Regs: regs, PC: pc}
				same := c
				core.Right(whole[:many], c)
				core.Wants(whole[:many], c, 64)
				core.Done(whole[:many], c, 9)
				if !slices.Equal(whole, before) || c != same || regs != [api.MaxRegs]uint32{5, 70, 1000, 1 << 31, top, 129, 77777, 4000000000} {
					t.Fatalf("%s: what was given became %v, %v", s.name, whole, c)
				}
			}
		}
	}
}

// lot gives numbers below n that look drawn, the same ones each time.
func lot() func(n int) int {
	state := uint64(3)
	return func(n int) int {
		state = state*6364136223846793005 + 1442695040888963407
		return int(state>>33) % n
	}
}

// number is one that is often an edge, so that registers are alike, and 0, not seldom.
func number(draw func(n int) int) uint32 {
	if draw(2) == 0 {
		return []uint32{0, 0, 1, 2, 63, 64, 1 << 31, top}[draw(8)]
	}
	return uint32(draw(1<<16)<<16 | draw(1<<16))
}

// drawnIns is an instruction that may be in a program of so many.
func drawnIns(draw func(n int) int, op, many int) api.Ins {
	a, b, c := draw(api.MaxRegs), draw(api.MaxRegs), draw(api.MaxRegs)
	switch op {
	case api.Set:
		return api.Ins{Op: op, A: a, K: number(draw)}
	case api.Load, api.Store:
		return api.Ins{Op: op, A: a, B: b}
	case api.Fence, api.Halt:
		return api.Ins{Op: op}
	case api.Jump:
		return api.Ins{Op: op, K: uint32(draw(many))}
	case api.Zero:
		return api.Ins{Op: op, A: a, K: uint32(draw(many))}
	case api.Out:
		return api.Ins{Op: op, A: a}
	}
	return api.Ins{Op: op, A: a, B: b, C: c}
}

// drawn is a program that may be.
func drawn(draw func(n int) int) []api.Ins {
	p := make([]api.Ins, 1+draw(api.MaxProg))
	for i := range p {
		p[i] = drawnIns(draw, 1+draw(api.Halt), len(p))
	}
	p[len(p)-1] = drawnIns(draw, []int{api.Jump, api.Halt}[draw(2)], len(p))
	return p
}

// drawnCore is a core at a place of a program of so many.
func drawnCore(draw func(n int) int, many int) api.Core {
	c := api.Core{PC: draw(many)}
	for i := range c.Regs {
		c.Regs[i] = number(draw)
	}
	return c
}

// askedOf is what the document asks of layer 1's operations, worked out in 64 bits.
func askedOf(op int, b, c uint64) uint32 {
	switch op {
	case api.Add:
		return uint32((b + c) % (1 << 32))
	case api.Sub:
		return uint32((1<<32 + b - c) % (1 << 32))
	case api.Mul:
		return uint32((b * c) % (1 << 32))
	case api.And:
		return uint32(b & c)
	case api.Xor:
		return uint32((b | c) - (b & c))
	}
	if op == api.Eq && b == c || op == api.Lt && b < c {
		return 1
	}
	return 0
}

// asked is the core behind its instruction, as the document asks it of a core that may be and hasn't Halted, told Op by Op.
func asked(x api.Ins, c api.Core, was uint32) api.Core {
	jumps := false
	switch x.Op {
	case api.Halt:
		return api.Core{Regs: c.Regs, PC: c.PC, Halted: true}
	case api.Jump:
		jumps = true
	case api.Zero:
		jumps = c.Regs[x.A] == 0
	case api.Set:
		c.Regs[x.A] = x.K
	case api.Load, api.Swap:
		c.Regs[x.A] = was
	case api.Add, api.Sub, api.Mul, api.And, api.Xor, api.Eq, api.Lt:
		c.Regs[x.A] = askedOf(x.Op, uint64(c.Regs[x.B]), uint64(c.Regs[x.C]))
	}
	if jumps {
		c.PC = int(x.K)
	} else {
		c.PC++
	}
	return c
}

// askedWant is what the document asks a core that may be and hasn't Halted to want.
func askedWant(x api.Ins, c api.Core, words uint32) api.Want {
	at := int(c.Regs[x.B] - c.Regs[x.B]/words*words)
	switch x.Op {
	case api.Load:
		return api.Want{Kind: 1, At: at}
	case api.Store:
		return api.Want{Kind: 2, At: at, Val: c.Regs[x.A]}
	case api.Swap:
		return api.Want{Kind: 3, At: at, Val: c.Regs[x.C], Old: c.Regs[x.A]}
	case api.Out:
		return api.Want{Kind: 4, Val: c.Regs[x.A]}
	case api.Halt:
		return api.Want{Kind: 5}
	}
	return api.Want{}
}

// P3.1: Wants and Done, at drawn programs and cores.
func TestDrawn(t *testing.T) {
	draw := lot()
	seen := [api.Halt + 1]int{}
	for range 40000 {
		p := drawn(draw)
		c := drawnCore(draw, len(p))
		x, was, words := p[c.PC], number(draw), 1+draw(api.MaxMem)
		seen[x.Op]++
		if want, got := askedWant(x, c, uint32(words)), core.Wants(p, c, words); got != want {
			t.Fatalf("Wants by %+v, of %+v, of %d words = %+v; want %+v", x, c, words, got, want)
		}
		if want, got := asked(x, c, was), core.Done(p, c, was); got != want {
			t.Fatalf("Done by %+v, of %+v, with %d = %+v; want %+v", x, c, was, got, want)
		}
	}
	for op := api.Set; op <= api.Halt; op++ {
		if seen[op] < 100 {
			t.Errorf("the operation %d was drawn %d times: too few", op, seen[op])
		}
	}
}

// P3.2: a core that may be stays one, step by step; one that has Halted stays as it is.
func TestStays(t *testing.T) {
	draw := lot()
	halted, running := 0, 0
	for range 4000 {
		p := drawn(draw)
		c := drawnCore(draw, len(p))
		for range 100 {
			next := core.Done(p, c, number(draw))
			if c.Halted && next != c {
				t.Fatalf("%+v has Halted, but became %+v", c, next)
			}
			if !core.Right(p, next) {
				t.Fatalf("%+v of %v may be, but became %+v", c, p, next)
			}
			c = next
		}
		if c.Halted {
			halted++
		} else {
			running++
		}
	}
	// Without both kinds in number the test would tell little.
	if halted < 500 || running < 500 {
		t.Errorf("%d have Halted, %d haven't: too few of one", halted, running)
	}
}

// P3.2: from each place of each short program, a core that may be stays one, whether or not it has Halted.
func TestShortPrograms(t *testing.T) {
	var kinds []api.Ins
	for op := api.Set; op <= api.Halt; op++ {
		kinds = append(kinds, api.Ins{Op: op})
		if op == api.Jump || op == api.Zero {
			kinds = append(kinds, api.Ins{Op: op, K: 1}, api.Ins{Op: op, K: 2}, api.Ins{Op: op, K: 3})
		}
	}
	for _, x := range kinds {
		for _, y := range kinds {
			for _, z := range kinds {
				p := []api.Ins{x, y, z}
				for pc := -1; pc <= len(p); pc++ {
					for _, c := range []api.Core{{PC: pc}, {PC: pc, Regs: regs}, {PC: pc, Halted: true}} {
						next := core.Done(p, c, 9)
						if core.Right(p, c) != core.Right(p, next) || c.Halted && next != c {
							t.Fatalf("%+v of %v became %+v", c, p, next)
						}
					}
				}
			}
		}
	}
}

// P3.2: a program, from its first place to its end: it counts from 3 down to 0 and tells each number.
func TestWholeRun(t *testing.T) {
	p := []api.Ins{
		{Op: api.Set, A: 1, K: 3},
		{Op: api.Set, A: 2, K: 1},
		{Op: api.Out, A: 1},
		{Op: api.Zero, A: 1, K: 6},
		{Op: api.Sub, A: 1, B: 1, C: 2},
		{Op: api.Jump, K: 2},
		halt,
	}
	var told []uint32
	c := api.Core{}
	for range 100 {
		if w := core.Wants(p, c, 64); w.Kind == api.Tell {
			told = append(told, w.Val)
		}
		c = core.Done(p, c, 0)
	}
	if !slices.Equal(told, []uint32{3, 2, 1, 0}) {
		t.Errorf("it told %v", told)
	}
	if want := (api.Core{Regs: [api.MaxRegs]uint32{0, 0, 1}, PC: 6, Halted: true}); c != want {
		t.Errorf("it ended as %+v; want %+v", c, want)
	}
}
