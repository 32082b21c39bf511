package proto_test

import (
	"fmt"
	"math"
	"slices"
	"testing"

	"backstay/api"
	"backstay/proto"
)

const top = math.MaxUint32

// usual is a system of three cores and four lines, each of which is had in some way; the core 2 waits for the last one.
func usual() api.Proto {
	return turned(fresh(3, 4),
		has(0, 0, api.Mod, 10), has(0, 1, api.Excl, 11), has(0, 2, api.Shared, 12), has(0, 3, api.Owned, 13),
		has(1, 2, api.Shared, 12), has(1, 3, api.Shared, 13),
		home(0, 5), home(1, 11), home(2, 12), home(3, top),
		knows(0, 1), knows(1, 1), knows(2, 0, 0, 1), knows(3, 3), busy(3, 3),
		waits(2, api.Wait{Line: 4, Write: true, Got: 1}),
		sent(api.Msg{Kind: api.FwdM, To: 1, Line: 3, For: 3, Acks: 1}),
	)
}

// rights are systems that may be, the document's edges among them.
func rights() map[string]api.Proto {
	u := usual()
	l := map[string]api.Proto{
		"usual":                                u,
		"new, 1 core, 1 line":                  fresh(1, 1),
		"new, 4 cores, 16":                     fresh(4, 16),
		"new, 1 core, 16":                      fresh(1, 16),
		"new, 4 cores, 1":                      fresh(4, 1),
		"all waits at most":                    turned(u, waits(0, api.Wait{Line: 4, Write: true, Back: true, Came: true, Own: true, Keep: true, Need: 255, Got: 255, Val: top})),
		"waits for line 1":                     turned(u, waits(0, api.Wait{Line: 1})),
		"waits for none, yet with all else":    turned(u, waits(0, api.Wait{Write: true, Back: true, Came: true, Own: true, Keep: true, Need: 7, Got: 9, Val: 3})),
		"busy for the last core":               turned(u, busy(0, 3), busy(1, 1)),
		"the last core owns, all others share": turned(u, knows(0, 3, 0, 1)),
		"all share":                            turned(u, knows(0, 0, 0, 1, 2)),
		"all have it to write":                 turned(u, state(0, 0, api.Mod), state(1, 0, api.Excl), state(2, 0, api.Mod)),
		"64 frames under way":                  turned(u, idle(63)),
		"63 frames under way":                  turned(u, idle(62)),
		"62 frames under way":                  turned(u, idle(61)),
		"61 frames under way":                  turned(u, idle(60)),
		"60 frames under way":                  turned(u, idle(59)),
		"4 cores, 60 frames under way":         turned(fresh(4, 2), idle(60)),
		"4 cores, 61 frames under way":         turned(fresh(4, 2), idle(61)),
		"1 core, 63 frames under way":          turned(fresh(1, 2), idle(63)),
		"1 core, 64 frames under way":          turned(fresh(1, 2), idle(64)),
		"frames that aren't read":              turned(u, laid(spoilt(api.Msg{Kind: api.Free, From: 1}), formless(0, 0), formless(12, 0), formless(1, 2), make([]byte, 19))),
		"messages for nobody":                  turned(u, sent(api.Msg{Kind: api.Inv, To: 255, From: 255, Line: 255, For: 255, Acks: 255})),
		"the latest line of the latest core":   turned(fresh(4, 16), has(3, 15, api.Owned, top), waits(3, api.Wait{Line: 16}), busy(15, 4), knows(15, 4, 0, 1, 2)),
	}
	for s := api.Invalid; s <= api.Owned; s++ {
		l[fmt.Sprint("State ", s)] = turned(u, state(0, 0, s))
		l[fmt.Sprint("State ", s, ", it waits for the line")] = turned(u, state(2, 3, s))
		l[fmt.Sprint("State ", s, ", the last one's last")] = turned(u, state(2, 3, s), waits(2, api.Wait{}))
		l[fmt.Sprint("State ", s, ", it waits for another line")] = turned(u, state(2, 2, s))
	}
	return l
}

// wrongRows are systems one of whose lists has too few, or too many.
func wrongRows() map[string]api.Proto {
	l := map[string]api.Proto{"nothing": {}, "lines, but no cores": fresh(0, 3), "cores, but no lines": fresh(3, 0), "5 cores": fresh(5, 4), "17 lines": fresh(3, 17), "5 cores, 17 lines": fresh(5, 17), "256 cores": fresh(256, 1), "257 cores": fresh(257, 2), "256 lines": fresh(1, 256), "260 lines": fresh(2, 260)}
	add := func(name string, t turn) { l[name] = turned(usual(), t) }
	add("no State", func(p *api.Proto) { p.State = nil })
	add("no Val", func(p *api.Proto) { p.Val = nil })
	add("no Wait", func(p *api.Proto) { p.Wait = nil })
	add("no Home", func(p *api.Proto) { p.Home = nil })
	add("no Dir", func(p *api.Proto) { p.Dir = nil })
	add("no Busy", func(p *api.Proto) { p.Busy = nil })
	add("one State less", func(p *api.Proto) { p.State = p.State[:2] })
	add("one Val less", func(p *api.Proto) { p.Val = p.Val[:2] })
	add("one Wait less", func(p *api.Proto) { p.Wait = p.Wait[:2] })
	add("one Home less", func(p *api.Proto) { p.Home = p.Home[:3] })
	add("one Dir less", func(p *api.Proto) { p.Dir = p.Dir[:3] })
	add("one Busy less", func(p *api.Proto) { p.Busy = p.Busy[:3] })
	add("one State more", func(p *api.Proto) { p.State = append(p.State, make([]int, 4)) })
	add("one Val more", func(p *api.Proto) { p.Val = append(p.Val, make([]uint32, 4)) })
	add("one Wait more", func(p *api.Proto) { p.Wait = append(p.Wait, api.Wait{}) })
	add("one Home more", func(p *api.Proto) { p.Home = append(p.Home, 0) })
	add("one Dir more", func(p *api.Proto) { p.Dir = append(p.Dir, api.Entry{Share: make([]bool, 3)}) })
	add("one Busy more", func(p *api.Proto) { p.Busy = append(p.Busy, 0) })
	for n := range 3 {
		add(fmt.Sprint("a short row of State ", n), func(p *api.Proto) { p.State[n] = p.State[n][:3] })
		add(fmt.Sprint("a long row of State ", n), func(p *api.Proto) { p.State[n] = append(p.State[n], 0) })
		add(fmt.Sprint("a short row of Val ", n), func(p *api.Proto) { p.Val[n] = p.Val[n][:3] })
		add(fmt.Sprint("a long row of Val ", n), func(p *api.Proto) { p.Val[n] = append(p.Val[n], 0) })
		add(fmt.Sprint("no row of State ", n), func(p *api.Proto) { p.State[n] = nil })
		add(fmt.Sprint("no row of Val ", n), func(p *api.Proto) { p.Val[n] = nil })
	}
	return l
}

// wrongNumbers are systems with a number, an entry or a frame that may not be.
func wrongNumbers() map[string]api.Proto {
	l := map[string]api.Proto{}
	add := func(name string, t turn) { l[name] = turned(usual(), t) }
	number := func(x int, most int, name string, t turn) {
		if x < 0 || x > most {
			add(fmt.Sprint(name, " ", x), t)
		}
	}
	for _, x := range append([]int{-1, 4, 5}, far...) {
		for n := range 3 {
			number(x, api.Owned, fmt.Sprint("State of ", n), state(n, (n+1)%4, x))
			number(x, 4, fmt.Sprint("Line of ", n), waits(n, api.Wait{Line: x}))
			number(x, 255, fmt.Sprint("Need of ", n), waits(n, api.Wait{Need: x}))
			number(x, 255, fmt.Sprint("Got of ", n), waits(n, api.Wait{Got: x}))
			number(x, 3, fmt.Sprint("Busy of ", n), busy(n, x))
			number(x, 3, fmt.Sprint("Owner of ", n), func(p *api.Proto) { p.Dir[n].Owner = x })
		}
		number(x, 3, "the last Busy", busy(3, x))
		number(x, 3, "the last Owner", func(p *api.Proto) { p.Dir[3].Owner = x })
		number(x, 4, "the last State", state(2, 3, x))
	}
	add("the owner shares", knows(1, 2, 1))
	add("the owner of the last line shares", knows(3, 3, 0, 1, 2))
	add("no Share", func(p *api.Proto) { p.Dir[2].Share = nil })
	add("a short Share", func(p *api.Proto) { p.Dir[3].Share = p.Dir[3].Share[:2] })
	add("a long Share", func(p *api.Proto) { p.Dir[0].Share = append(p.Dir[0].Share, false) })
	add("65 frames under way", idle(64))
	add("a frame of 18 bytes", laid(make([]byte, 18)))
	add("a frame of 20 bytes", laid(make([]byte, 20)))
	add("a frame of none", laid(nil))
	add("a first frame of 18 bytes", func(p *api.Proto) { p.Pool.Frames[0] = p.Pool.Frames[0][:18] })
	return l
}

// wrongs are systems that may not be, in each way that the chapter's head names.
func wrongs() map[string]api.Proto {
	l := wrongRows()
	for name, p := range wrongNumbers() {
		l[name] = p
	}
	return l
}

// deeds are each call of a core and a line, of all that are there and of some that aren't, and of each frame.
func deeds(p api.Proto) []deed {
	var l []deed
	for n := -1; n <= len(p.Wait); n++ {
		for line := -1; line <= len(p.Home); line++ {
			l = append(l, deedsOf(n, line)...)
		}
	}
	for k := -1; k <= len(p.Pool.Frames); k++ {
		l = append(l, deed{call: "Deliver", k: k})
	}
	return append(l, deed{call: "Right"})
}

// deedsOf are each call of this core and line.
func deedsOf(n, line int) []deed {
	return []deed{
		{call: "Has", n: n, line: line}, {call: "Has", n: n, line: line, write: true}, {call: "Get", n: n, line: line},
		{call: "Set", n: n, line: line, w: 77}, {call: "Set", n: n, line: line},
		{call: "Want", n: n, line: line}, {call: "Want", n: n, line: line, write: true}, {call: "Evict", n: n, line: line},
	}
}

// P10.1: Right, of systems that may be, and of such as may not, each by one thing alone.
func TestRight(t *testing.T) {
	for name, p := range rights() {
		if !proto.Right(p) || !may(p) {
			t.Errorf("%s: Right = %t: %+v", name, proto.Right(p), p)
		}
	}
	for name, p := range wrongs() {
		if proto.Right(p) || may(p) {
			t.Errorf("%s: Right = %t: %+v", name, proto.Right(p), p)
		}
	}
}

// P10.1: New: all Invalid, 0, at home, nobody waits, nothing under way; none, and ErrArg, of too few or too many.
func TestNew(t *testing.T) {
	for cores := -1; cores <= 6; cores++ {
		for lines := -1; lines <= 18; lines++ {
			d := deed{call: "New", n: cores, line: lines}
			becomes(t, "new", api.Proto{}, d, d.asks(api.Proto{}))
		}
	}
	for _, x := range far {
		for _, d := range []deed{{call: "New", n: x, line: 1}, {call: "New", n: 1, line: x}, {call: "New", n: x, line: x}} {
			becomes(t, "far", api.Proto{}, d, done{err: api.ErrArg})
		}
	}
	p, err := proto.New(2, 1)
	want := api.Proto{State: [][]int{{0}, {0}}, Val: [][]uint32{{0}, {0}}, Wait: make([]api.Wait, 2), Home: []uint32{0}, Dir: []api.Entry{{Share: []bool{false, false}}}, Busy: []int{0}}
	if err != api.OK || !alike(p, want) || !proto.Right(p) {
		t.Errorf("New(2, 1) = %+v, %d", p, err)
	}
}

// P10.1: Has, by hand: to read, if its State isn't Invalid, to write, if it is Excl or Mod; but not, while it waits for that line.
func TestHasByHand(t *testing.T) {
	for s, want := range [][2]bool{{false, false}, {true, false}, {true, true}, {true, true}, {true, false}} {
		p := turned(fresh(2, 3), has(1, 2, s, 9))
		for i, write := range []bool{false, true} {
			if got := proto.Has(p, 1, 2, write); got != want[i] {
				t.Errorf("State %d: Has(write %t) = %t", s, write, got)
			}
			for _, w := range []api.Wait{{Line: 2}, {Line: 1, Back: true}, {Write: true, Came: true}} {
				if got := proto.Has(turned(p, waits(1, w)), 1, 2, write); got != want[i] {
					t.Errorf("State %d, waits %+v: Has(write %t) = %t", s, w, write, got)
				}
			}
			for _, w := range []api.Wait{{Line: 3}, {Line: 3, Back: true}, {Line: 3, Write: true}, {Line: 3, Came: true, Own: true}} {
				if proto.Has(turned(p, waits(1, w)), 1, 2, write) {
					t.Errorf("State %d, waits %+v: Has(write %t)", s, w, write)
				}
			}
			if proto.Has(turned(p, waits(0, api.Wait{Line: 3})), 1, 2, write) != want[i] {
				t.Errorf("State %d, another one waits for it: Has(write %t)", s, write)
			}
			if proto.Has(p, 0, 2, write) || proto.Has(p, 1, 1, write) {
				t.Errorf("State %d: another core, or line", s)
			}
		}
	}
}

// P10.1: Get and Set, by hand.
func TestGetAndSetByHand(t *testing.T) {
	for s := api.Invalid; s <= api.Owned; s++ {
		p := turned(fresh(2, 3), has(1, 2, s, 9))
		get, set := deed{call: "Get", n: 1, line: 2}, deed{call: "Set", n: 1, line: 2, w: top}
		wait := turned(p, waits(1, api.Wait{Line: 3}))
		other := turned(p, waits(1, api.Wait{Line: 2}))
		fails(t, "it waits for the line", wait, get, api.ErrState)
		fails(t, "it waits for the line", wait, set, api.ErrState)
		if s == api.Invalid {
			fails(t, "Invalid", p, get, api.ErrState)
		} else {
			becomes(t, "its word", p, get, done{w: 9})
			becomes(t, "its word, it waits for another line", other, get, done{w: 9})
		}
		if s == api.Excl || s == api.Mod {
			becomes(t, "its word", p, set, done{p: turned(p, has(1, 2, api.Mod, top))})
			becomes(t, "its word, it waits for another line", other, set, done{p: turned(other, has(1, 2, api.Mod, top))})
		} else {
			fails(t, "not to write", p, set, api.ErrState)
		}
	}
}

// P10.2: Want, by hand: it waits, and GetS or GetM goes home, the last one under way; ErrState: it waits, or has it so; ErrFull: there is no room.
func TestWantByHand(t *testing.T) {
	read, write := deed{call: "Want", n: 1, line: 2}, deed{call: "Want", n: 1, line: 2, write: true}
	getS, getM := sent(api.Msg{Kind: api.GetS, From: 2, Line: 2, For: 2}), sent(api.Msg{Kind: api.GetM, From: 2, Line: 2, For: 2})
	reads, writes := waits(1, api.Wait{Line: 3}), waits(1, api.Wait{Line: 3, Write: true})
	for s := api.Invalid; s <= api.Owned; s++ {
		p := turned(fresh(2, 3), has(1, 2, s, 9), sent(api.Msg{Kind: api.Free, From: 1}))
		if s == api.Invalid {
			becomes(t, "Invalid, to read", p, read, done{p: turned(p, reads, getS)})
		} else {
			fails(t, "it has it to read", p, read, api.ErrState)
		}
		if s == api.Excl || s == api.Mod {
			fails(t, "it has it to write", p, write, api.ErrState)
		} else {
			becomes(t, "to write", p, write, done{p: turned(p, writes, getM)})
		}
		for line := 1; line <= 3; line++ {
			fails(t, "it waits", turned(p, waits(1, api.Wait{Line: line})), read, api.ErrState)
			fails(t, "it waits", turned(p, waits(1, api.Wait{Line: line, Write: true})), write, api.ErrState)
			fails(t, "it waits to give back", turned(p, waits(1, api.Wait{Line: line, Back: true})), write, api.ErrState)
		}
	}
	p := turned(fresh(2, 3), waits(0, api.Wait{Line: 3, Write: true}), busy(2, 1))
	becomes(t, "another one waits", p, read, done{p: turned(p, reads, getS)})
	old := turned(p, waits(1, api.Wait{Write: true, Back: true, Came: true, Own: true, Keep: true, Need: 3, Got: 2, Val: 1}))
	becomes(t, "what it waited for once is forgotten", old, read, done{p: turned(old, reads, getS)})
	room := turned(p, idle(63))
	becomes(t, "just so much room", room, write, done{p: turned(room, writes, getM)})
	fails(t, "no room", turned(p, idle(64)), read, api.ErrFull)
	fails(t, "no room", turned(p, idle(64)), write, api.ErrFull)
}

// P10.2: Evict, by hand: Shared is Invalid at once; else it waits, and Put goes home, with its word; ErrState: it waits, or it is Invalid; ErrFull: there is no room.
func TestEvictByHand(t *testing.T) {
	back := deed{call: "Evict", n: 1, line: 2}
	waiting, put := waits(1, api.Wait{Line: 3, Back: true}), sent(api.Msg{Kind: api.Put, From: 2, Line: 2, Val: 9})
	for s := api.Invalid; s <= api.Owned; s++ {
		p := turned(fresh(2, 3), has(1, 2, s, 9), sent(api.Msg{Kind: api.Free, From: 1}))
		old := turned(p, waits(1, api.Wait{Write: true, Came: true, Own: true, Keep: true, Need: 3, Got: 2, Val: 1}))
		switch s {
		case api.Invalid:
			fails(t, "Invalid", p, back, api.ErrState)
			fails(t, "Invalid, and no room", turned(p, idle(63)), back, api.ErrState)
		case api.Shared:
			becomes(t, "Shared", p, back, done{p: turned(p, state(1, 2, api.Invalid))})
			becomes(t, "Shared, one more may be sent", turned(p, idle(62)), back, done{p: turned(p, idle(62), state(1, 2, api.Invalid))})
			fails(t, "Shared, no room", turned(p, idle(63)), back, api.ErrFull)
		default:
			becomes(t, "its own", p, back, done{p: turned(p, waiting, put)})
			becomes(t, "its own, what it waited for once is forgotten", old, back, done{p: turned(old, waiting, put)})
			becomes(t, "its own, just so much room", turned(p, idle(62)), back, done{p: turned(p, idle(62), waiting, put)})
			fails(t, "its own, no room", turned(p, idle(63)), back, api.ErrFull)
		}
		for line := 1; line <= 3; line++ {
			fails(t, "it waits", turned(p, waits(1, api.Wait{Line: line})), back, api.ErrState)
			fails(t, "it waits to give back", turned(p, waits(1, api.Wait{Line: line, Back: true})), back, api.ErrState)
		}
	}
}

// P10.1 to P10.3: each call, of all systems that may be, of each core, line and frame, is what the document asks.
func TestAllCalls(t *testing.T) {
	for name, p := range rights() {
		for _, d := range deeds(p) {
			becomes(t, name, p, d, d.asks(p))
		}
	}
}

// The promises' head: ErrArg, and the system as it is, with each call: it isn't right, though core, line and frame be there.
func TestWrongSystems(t *testing.T) {
	for name, p := range wrongs() {
		for n := -1; n <= 2; n++ {
			for _, line := range []int{-1, 0, 2, 3} {
				for _, d := range deedsOf(n, line) {
					fails(t, name, p, d, api.ErrArg)
				}
			}
		}
		for k := -1; k <= 1; k++ {
			fails(t, name, p, deed{call: "Deliver", k: k}, api.ErrArg)
		}
	}
}

// The promises' head: ErrArg, and the system as it is: no such core or line.
func TestWrongCoresAndLines(t *testing.T) {
	for _, p := range []api.Proto{usual(), fresh(1, 1), fresh(4, 16), turned(usual(), idle(63))} {
		cores, lines := len(p.Wait), len(p.Home)
		for _, x := range append([]int{-1, 16, 17}, far...) {
			for _, d := range slices.Concat(deedsOf(x, 0), deedsOf(cores, 0), deedsOf(x, x), deedsOf(cores, lines), deedsOf(cores-1, lines)) {
				fails(t, "no such core, or line", p, d, api.ErrArg)
			}
			for _, d := range deedsOf(cores-1, x) {
				fails(t, "no such line", p, d, api.ErrArg)
			}
		}
	}
}

// P10.1 to P10.3: which error comes first, where more than one could be told.
func TestFirstError(t *testing.T) {
	full := turned(usual(), idle(63))
	fails(t, "no such line, it waits, no room", full, deed{call: "Want", n: 2, line: 4}, api.ErrArg)
	fails(t, "no such core, no room", full, deed{call: "Want", n: 3}, api.ErrArg)
	fails(t, "it waits, no room", full, deed{call: "Want", n: 2}, api.ErrState)
	fails(t, "it has it, no room", full, deed{call: "Want", n: 0, write: true}, api.ErrState)
	fails(t, "no such line, it waits, no room", full, deed{call: "Evict", n: 2, line: -1}, api.ErrArg)
	fails(t, "it waits, no room", full, deed{call: "Evict", n: 2}, api.ErrState)
	fails(t, "it is Invalid, no room", full, deed{call: "Evict", n: 1}, api.ErrState)
	fails(t, "no such line, and it is Invalid", full, deed{call: "Get", n: 1, line: 4}, api.ErrArg)
	fails(t, "no such core, and none has it", full, deed{call: "Set", n: -1, line: 3}, api.ErrArg)
	fails(t, "no such frame, no room", full, deed{call: "Deliver", k: 64}, api.ErrNone)
	fails(t, "no such frame, no room", full, deed{call: "Deliver", k: -1}, api.ErrNone)
	fails(t, "no such frame, nothing is under way", fresh(1, 1), deed{call: "Deliver"}, api.ErrNone)
	unread := turned(full, func(p *api.Proto) { p.Pool.Frames[5] = make([]byte, 19) })
	fails(t, "a frame that isn't read, no room", unread, deed{call: "Deliver", k: 5}, api.ErrFull)
	wrong := turned(full, busy(0, 4))
	fails(t, "it isn't right, no such frame", wrong, deed{call: "Deliver", k: 64}, api.ErrArg)
	fails(t, "it isn't right, no room", wrong, deed{call: "Deliver", k: 5}, api.ErrArg)
	fails(t, "it isn't right, it waits", wrong, deed{call: "Want", n: 2}, api.ErrArg)
	fails(t, "it isn't right, it is Invalid", wrong, deed{call: "Evict", n: 1}, api.ErrArg)
}
