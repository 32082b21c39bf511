package isa_test

import (
	"math"
	"slices"
	"testing"

	"backstay/api"
	"backstay/isa"
)

const top = math.MaxUint32

// rows are the document's operations, each with the letters of what it uses.
var rows = []struct {
	name string
	op   int
	uses string
}{
	{"Set", 1, "AK"},
	{"Add", 2, "ABC"},
	{"Sub", 3, "ABC"},
	{"Mul", 4, "ABC"},
	{"And", 5, "ABC"},
	{"Xor", 6, "ABC"},
	{"Eq", 7, "ABC"},
	{"Lt", 8, "ABC"},
	{"Load", 9, "AB"},
	{"Store", 10, "AB"},
	{"Swap", 11, "ABC"},
	{"Fence", 12, ""},
	{"Jump", 13, "K"},
	{"Zero", 14, "AK"},
	{"Out", 15, "A"},
	{"Halt", 16, ""},
}

// strangers are numbers of no operation, some of which a narrower integer would take for one.
var strangers = []int{
	0, -1, -2, -16, 17, 18, 32, 100, 256 + api.Add, 256 + api.Halt, 65536 + api.Jump,
	math.MaxInt32, math.MinInt32, math.MaxInt, math.MinInt, math.MinInt + api.Set,
}

// registers are those at and around the edges.
var registers = []int{0, 1, 3, api.MaxRegs - 2, api.MaxRegs - 1, api.MaxRegs, api.MaxRegs + 1, -1, -2, -api.MaxRegs, 256, math.MaxInt32, math.MinInt32, math.MaxInt, math.MinInt}

// has answers whether the letter stands in uses.
func has(uses string, letter byte) bool {
	for i := range len(uses) {
		if uses[i] == letter {
			return true
		}
	}
	return false
}

// with is x with the register of that letter being r.
func with(x api.Ins, letter byte, r int) api.Ins {
	switch letter {
	case 'A':
		x.A = r
	case 'B':
		x.B = r
	case 'C':
		x.C = r
	}
	return x
}

// may holds May to an answer.
func may(t *testing.T, x api.Ins, many int, want bool) {
	t.Helper()
	if got := isa.May(x, many); got != want {
		t.Errorf("May(%+v, %d) = %t; want %t", x, many, got, want)
	}
}

// right holds Right to an answer.
func right(t *testing.T, what string, p []api.Ins, want bool) {
	t.Helper()
	if got := isa.Right(p); got != want {
		t.Errorf("%s: Right of %d instructions = %t; want %t", what, len(p), got, want)
	}
}

// P2.1: Uses, each operation; none of another number.
func TestUses(t *testing.T) {
	for _, r := range rows {
		a, b, c, k := isa.Uses(r.op)
		if a != has(r.uses, 'A') || b != has(r.uses, 'B') || c != has(r.uses, 'C') || k != has(r.uses, 'K') {
			t.Errorf("Uses(%s) = %t, %t, %t, %t; want %q", r.name, a, b, c, k, r.uses)
		}
	}
	for _, op := range strangers {
		if a, b, c, k := isa.Uses(op); a || b || c || k {
			t.Errorf("Uses(%d) = %t, %t, %t, %t; want none", op, a, b, c, k)
		}
	}
}

// P2.1: May, an ordinary instruction of each operation.
func TestMayOrdinary(t *testing.T) {
	for _, x := range []api.Ins{
		{Op: api.Set, A: 2, K: 1000},
		{Op: api.Add, A: 1, B: 2, C: 3},
		{Op: api.Sub, A: 7, B: 6, C: 5},
		{Op: api.Mul, A: 4, B: 4, C: 4},
		{Op: api.And, A: 1, B: 0, C: 7},
		{Op: api.Xor, A: 3, B: 2, C: 1},
		{Op: api.Eq, A: 5, B: 6, C: 7},
		{Op: api.Lt, A: 6, B: 1, C: 2},
		{Op: api.Load, A: 1, B: 2},
		{Op: api.Store, A: 3, B: 4},
		{Op: api.Swap, A: 1, B: 2, C: 3},
		{Op: api.Fence},
		{Op: api.Jump, K: 3},
		{Op: api.Zero, A: 6, K: 4},
		{Op: api.Out, A: 5},
		{Op: api.Halt},
	} {
		may(t, x, 10, true)
	}
}

// P2.1: May, each register of each operation: from 0 to 7 where it is used, 0 where it isn't.
func TestMayRegisters(t *testing.T) {
	for _, row := range rows {
		for _, letter := range []byte("ABC") {
			for _, r := range registers {
				want := r == 0 || has(row.uses, letter) && 0 < r && r < 8
				may(t, with(api.Ins{Op: row.op}, letter, r), 1, want)
			}
		}
	}
}

// P2.1: May asks each register apart: one that is wrong isn't made good by others that are right.
func TestMayOneWrongRegister(t *testing.T) {
	for _, row := range rows {
		whole := api.Ins{Op: row.op}
		for _, letter := range []byte("ABC") {
			if has(row.uses, letter) {
				whole = with(whole, letter, api.MaxRegs-1)
			}
		}
		may(t, whole, 5, true)
		for _, letter := range []byte("ABC") {
			may(t, with(whole, letter, api.MaxRegs), 5, false)
			may(t, with(whole, letter, -1), 5, false)
		}
	}
}

// P2.1: May, K of each operation: any of Set; a place of Jump and Zero; 0 of others.
func TestMayK(t *testing.T) {
	for _, row := range rows {
		for _, many := range []int{1, 2, 3, 63, 64} {
			for _, k := range []uint32{0, 1, 2, 3, 62, 63, 64, 65, 256, 1<<31 - 1, 1 << 31, top - 1, top} {
				want := k == 0
				switch row.name {
				case "Set":
					want = true
				case "Jump", "Zero":
					want = int64(k) <= int64(many)-1
				}
				may(t, api.Ins{Op: row.op, K: k}, many, want)
			}
		}
	}
}

// P2.1: May, where there are no instructions, or below none: nothing can be jumped to, but what doesn't jump may be.
func TestMayInNone(t *testing.T) {
	for _, many := range []int{0, -1, -64, math.MinInt32, math.MinInt} {
		for _, row := range rows {
			may(t, api.Ins{Op: row.op}, many, row.name != "Jump" && row.name != "Zero")
		}
		may(t, api.Ins{Op: api.Jump, K: top}, many, false)
		may(t, api.Ins{Op: api.Zero, A: 1, K: 1 << 31}, many, false)
		may(t, api.Ins{Op: api.Set, A: 7, K: top}, many, true)
	}
}

// P2.1: May, where there are more than a program may have: it asks for the place alone.
func TestMayInMany(t *testing.T) {
	for _, op := range []int{api.Jump, api.Zero} {
		may(t, api.Ins{Op: op, K: 64}, 65, true)
		may(t, api.Ins{Op: op, K: 65}, 65, false)
		may(t, api.Ins{Op: op, K: math.MaxInt32 - 1}, math.MaxInt32, true)
		may(t, api.Ins{Op: op, K: math.MaxInt32}, math.MaxInt32, false)
		may(t, api.Ins{Op: op, K: top}, math.MaxInt32, false)
	}
}

// P2.1: May, of what is no operation, whatever else it has.
func TestMayOfStrangers(t *testing.T) {
	for _, op := range strangers {
		may(t, api.Ins{Op: op}, 10, false)
		may(t, api.Ins{Op: op, A: 1, B: 2, C: 3, K: 4}, 10, false)
		may(t, api.Ins{Op: op, A: -1, B: 8, K: top}, -1, false)
	}
}

// filled is so many instructions, all x but the last one.
func filled(many int, x, last api.Ins) []api.Ins {
	return append(slices.Repeat([]api.Ins{x}, many-1), last)
}

var (
	halt  = api.Ins{Op: api.Halt}
	fence = api.Ins{Op: api.Fence}
)

// P2.1: Right, the document's example, and other ordinary programs.
func TestRightOrdinary(t *testing.T) {
	right(t, "the document's example", []api.Ins{{Op: api.Set, A: 0, K: 7}, {Op: api.Out, A: 0}, halt}, true)
	right(t, "Halt alone", []api.Ins{halt}, true)
	right(t, "Jump alone", []api.Ins{{Op: api.Jump}}, true)
	right(t, "a loop", []api.Ins{
		{Op: api.Set, A: 1, K: 1}, {Op: api.Set, A: 2, K: 10}, {Op: api.Zero, A: 2, K: 6},
		{Op: api.Out, A: 2}, {Op: api.Sub, A: 2, B: 2, C: 1}, {Op: api.Jump, K: 2}, halt,
	}, true)
	right(t, "a lock", []api.Ins{
		{Op: api.Swap, A: 0, B: 1, C: 2}, {Op: api.Load, A: 3, B: 4}, {Op: api.Store, A: 3, B: 4}, fence, {Op: api.Jump},
	}, true)
	right(t, "a Halt amid", []api.Ins{halt, fence, halt}, true)
}

// P2.1: Right, from 1 to 64 instructions.
func TestRightLength(t *testing.T) {
	right(t, "nil", nil, false)
	right(t, "empty", []api.Ins{}, false)
	for many := 1; many <= 3*api.MaxProg; many++ {
		right(t, "Halt last", filled(many, fence, halt), many <= 64)
		right(t, "Jump last", filled(many, fence, api.Ins{Op: api.Jump}), many <= 64)
	}
}

// P2.1: Right counts what there is, not the spare room.
func TestRightLeavesSpareRoom(t *testing.T) {
	room := append(filled(3, fence, halt), api.Ins{Op: 99, A: -1})
	whole := slices.Clone(room)
	right(t, "in front of what may not be", room[:3], true)
	right(t, "none of it", room[:0], false)
	right(t, "jump into the spare room", append(slices.Clone(room[:2]), api.Ins{Op: api.Jump, K: 3}, halt)[:3], false)
	if !slices.Equal(room, whole) {
		t.Errorf("what was given became %v", room)
	}
}

// P2.1: Right, by its last instruction: Halt or Jump alone.
func TestRightLast(t *testing.T) {
	for _, row := range rows {
		ends := row.name == "Halt" || row.name == "Jump"
		last := api.Ins{Op: row.op}
		right(t, row.name+" alone", []api.Ins{last}, ends)
		right(t, row.name+" last", []api.Ins{fence, halt, last}, ends)
		right(t, row.name+" last of the most", filled(api.MaxProg, halt, last), ends)
		right(t, row.name+" not last", []api.Ins{fence, last, halt}, true)
	}
}

// P2.1: Right, where one instruction, wherever it stands, may not be.
func TestRightOneWrong(t *testing.T) {
	for _, many := range []int{1, 2, 5, 64} {
		for _, wrong := range []api.Ins{
			{}, {Op: -1}, {Op: 17}, {Op: 256 + api.Halt},
			{Op: api.Halt, A: 1}, {Op: api.Halt, B: 1}, {Op: api.Halt, C: 1}, {Op: api.Halt, K: 1}, {Op: api.Halt, A: -1},
			{Op: api.Jump, K: uint32(many)}, {Op: api.Jump, K: top}, {Op: api.Jump, A: 1}, {Op: api.Jump, B: 1}, {Op: api.Jump, C: -1},
			{Op: api.Zero, K: uint32(many)}, {Op: api.Zero, A: 8}, {Op: api.Set, A: 8}, {Op: api.Set, B: 1},
			{Op: api.Out, K: 1}, {Op: api.Load, C: 1}, {Op: api.Lt, C: 8}, {Op: api.Swap, B: -1}, {Op: api.Fence, K: 1},
		} {
			for at := range many {
				p := filled(many, fence, halt)
				p[at] = wrong
				right(t, "one wrong", p, false)
			}
		}
	}
}

// P2.1: Right, where jumps go to the first and the last place, and one beyond it, of each length.
func TestRightJumps(t *testing.T) {
	for many := 1; many <= api.MaxProg; many++ {
		for _, op := range []int{api.Jump, api.Zero} {
			for _, k := range []int{0, many - 1, many, many + 1} {
				jump := api.Ins{Op: op, K: uint32(k)}
				right(t, "jumps", filled(many, jump, halt), k < many || many == 1)
				right(t, "a last jump", filled(many, fence, jump), k < many && op == api.Jump)
			}
		}
	}
}

// P2.1: All, from 1 to 4 programs, all of which may be.
func TestAll(t *testing.T) {
	all := func(what string, l [][]api.Ins, want bool) {
		t.Helper()
		if got := isa.All(l); got != want {
			t.Errorf("%s: All of %d programs = %t; want %t", what, len(l), got, want)
		}
	}
	all("nil", nil, false)
	all("empty", [][]api.Ins{}, false)
	good := []api.Ins{{Op: api.Set, A: 0, K: 7}, {Op: api.Out, A: 0}, halt}
	for many := 1; many <= 3*api.MaxCores; many++ {
		all("alike", slices.Repeat([][]api.Ins{good}, many), many <= 4)
	}
	all("not alike", [][]api.Ins{{halt}, good, {{Op: api.Jump}}, filled(64, fence, halt)}, true)
	for many := 1; many <= api.MaxCores; many++ {
		for at := range many {
			for _, bad := range [][]api.Ins{nil, {}, {fence}, {{Op: api.Jump, K: 1}}, filled(65, fence, halt), {{}, halt}} {
				l := slices.Repeat([][]api.Ins{good}, many)
				l[at] = bad
				all("one that may not be", l, false)
			}
		}
	}
	room := [][]api.Ins{good, {halt}, nil, {fence}, good}
	all("spare room", room[:2], true)
}

// P2.1: All asks each program by its own length, not by another's.
func TestAllByOwnLength(t *testing.T) {
	long := filled(5, fence, halt)
	if isa.All([][]api.Ins{long, {{Op: api.Jump, K: 4}}}) {
		t.Error("a jump by another program's length may be")
	}
	if !isa.All([][]api.Ins{{halt}, filled(5, fence, api.Ins{Op: api.Jump, K: 4})}) {
		t.Error("a jump within its own program may not be")
	}
}

// Rule 3: nothing of what is handed in is changed.
func TestLeavesWhatItIsGiven(t *testing.T) {
	p := []api.Ins{{Op: api.Set, A: 1, K: 9}, {Op: api.Zero, A: 1, K: 7}, {Op: 77, A: -3, B: 12}, halt}
	q := slices.Clone(p)
	l := [][]api.Ins{p, nil}
	isa.Right(p)
	isa.All(l)
	if !slices.Equal(p, q) || len(l) != 2 || l[1] != nil || &l[0][0] != &p[0] {
		t.Errorf("what was given became %v", l)
	}
}

// nexts are the places that are gone on to from the place at, told by the document's words on jumps.
func nexts(p []api.Ins, at int) []int64 {
	switch p[at].Op {
	case api.Halt:
		return nil
	case api.Jump:
		return []int64{int64(p[at].K)}
	case api.Zero:
		return []int64{int64(at) + 1, int64(p[at].K)}
	}
	return []int64{int64(at) + 1}
}

// stays answers whether all places that are gone on to are of p.
func stays(p []api.Ins) bool {
	for at := range p {
		for _, next := range nexts(p, at) {
			if next < 0 || next >= int64(len(p)) {
				return false
			}
		}
	}
	return true
}

// lot gives numbers below n that look drawn, the same ones each time.
func lot() func(n int) int {
	state := uint64(1)
	return func(n int) int {
		state = state*6364136223846793005 + 1442695040888963407
		return int(state>>33) % n
	}
}

// drawn is a program of so many, nearly all of whose instructions may be in it.
func drawn(draw func(n int) int, many int) []api.Ins {
	p := make([]api.Ins, many)
	for i := range p {
		row := rows[draw(len(rows))]
		if i == many-1 && draw(8) > 0 {
			row = rows[[]int{api.Jump, api.Halt}[draw(2)]-1]
		}
		p[i].Op = row.op
		for _, letter := range []byte("ABC") {
			if has(row.uses, letter) {
				p[i] = with(p[i], letter, draw(api.MaxRegs))
			}
		}
		if has(row.uses, 'K') {
			p[i].K = uint32(draw(many))
		}
		if draw(200) == 0 {
			p[i].K += uint32(draw(many + 1))
		}
	}
	return p
}

// P2.2: from each place of a program that may be, where it goes on to is one of it.
func TestStaysInside(t *testing.T) {
	draw := lot()
	seen := [2]int{}
	for range 40000 {
		p := drawn(draw, 1+draw(api.MaxProg))
		if !isa.Right(p) {
			seen[0]++
			continue
		}
		seen[1]++
		if !stays(p) {
			t.Fatalf("%v may be, but leaves itself", p)
		}
	}
	// Without both kinds in number the test would tell little.
	if seen[0] < 1000 || seen[1] < 1000 {
		t.Errorf("%d programs may not be, %d may: too few of one", seen[0], seen[1])
	}
}

// P2.2: of all short programs made of instructions that use what they may, those that stay inside are those that may be.
func TestShortPrograms(t *testing.T) {
	var kinds []api.Ins
	for _, row := range rows {
		kinds = append(kinds, api.Ins{Op: row.op})
		if row.name == "Jump" || row.name == "Zero" {
			for _, k := range []uint32{1, 2, 3, 4, top} {
				kinds = append(kinds, api.Ins{Op: row.op, K: k})
			}
		}
	}
	for _, x := range kinds {
		right(t, "one", []api.Ins{x}, stays([]api.Ins{x}))
		for _, y := range kinds {
			right(t, "two", []api.Ins{x, y}, stays([]api.Ins{x, y}))
			for _, z := range kinds {
				p := []api.Ins{x, y, z}
				if got := isa.Right(p); got != stays(p) {
					t.Fatalf("Right(%v) = %t; want %t", p, got, stays(p))
				}
			}
		}
	}
}
