package proto_test

import (
	"slices"
	"testing"

	"backstay/api"
	"backstay/frame"
	"backstay/proto"
)

// comes holds the program to p becoming so, when m comes, alone and among others: what is sent is the last one under way.
func comes(t *testing.T, what string, p api.Proto, m api.Msg, then ...turn) {
	t.Helper()
	k := len(p.Pool.Frames)
	becomes(t, what, turned(p, sent(m)), deed{call: "Deliver", k: k}, done{p: turned(p, then...)})
	among := turned(p, idleOf(1, 2), sent(m), idleOf(3, 4))
	becomes(t, what+", among others", among, deed{call: "Deliver", k: k + 2}, done{p: turned(turned(p, idleOf(1, 2, 3, 4)), then...)})
}

// passes holds the program to passing m by.
func passes(t *testing.T, what string, p api.Proto, m api.Msg) {
	t.Helper()
	comes(t, what, p, m)
}

// three is a system of three cores and two lines; of the line 1 Home has 50, the cores have 60, 61 and 62.
func three(turns ...turn) api.Proto {
	return turned(turned(fresh(3, 2), home(0, 40), home(1, 50), val(0, 1, 60), val(1, 1, 61), val(2, 1, 62)), turns...)
}

// P10.3: GetS comes home, which isn't Busy: the word from home, from another one, from the core itself.
func TestGetSComesHome(t *testing.T) {
	m := api.Msg{Kind: api.GetS, From: 2, Line: 1, For: 2}
	data := api.Msg{Kind: api.Data, To: 2, Line: 1, Val: 50}
	alone := data
	alone.Own = true
	comes(t, "nobody has it", three(), m, busy(1, 2), knows(1, 2), sent(alone))
	comes(t, "itself shares", three(knows(1, 0, 1)), m, busy(1, 2), knows(1, 2), sent(alone))
	comes(t, "another one shares", three(knows(1, 0, 2)), m, busy(1, 2), knows(1, 0, 1, 2), sent(data))
	comes(t, "itself and another one share", three(knows(1, 0, 0, 1)), m, busy(1, 2), knows(1, 0, 0, 1), sent(data))
	comes(t, "another line is Busy", three(busy(0, 1)), m, busy(1, 2), knows(1, 2), sent(alone))
	fwd := api.Msg{Kind: api.FwdS, To: 3, Line: 1, For: 2}
	comes(t, "another one owns it", three(knows(1, 3)), m, busy(1, 2), knows(1, 3, 1), sent(fwd))
	comes(t, "another one owns it, others share", three(knows(1, 3, 0, 1)), m, busy(1, 2), knows(1, 3, 0, 1), sent(fwd))
	keep := api.Msg{Kind: api.Data, To: 2, Line: 1, Num: 1}
	comes(t, "itself owns it, others share", three(knows(1, 2, 0)), m, busy(1, 2), sent(keep))
	keep.Own = true
	comes(t, "itself owns it, alone", three(knows(1, 2)), m, busy(1, 2), sent(keep))
}

// P10.3: GetM comes home, which isn't Busy: ahead of the word, or of FwdM, each other one that shares is told off, in order.
func TestGetMComesHome(t *testing.T) {
	m := api.Msg{Kind: api.GetM, From: 2, Line: 1, For: 2}
	inv := func(n int) api.Msg { return api.Msg{Kind: api.Inv, To: n + 1, Line: 1, For: 2} }
	data := func(acks int) api.Msg {
		return api.Msg{Kind: api.Data, To: 2, Line: 1, Acks: acks, Own: true, Val: 50}
	}
	comes(t, "nobody has it", three(), m, busy(1, 2), knows(1, 2), sent(data(0)))
	comes(t, "itself shares", three(knows(1, 0, 1)), m, busy(1, 2), knows(1, 2), sent(data(0)))
	comes(t, "another one shares", three(knows(1, 0, 2)), m, busy(1, 2), knows(1, 2), sent(inv(2), data(1)))
	comes(t, "all share", three(knows(1, 0, 0, 1, 2)), m, busy(1, 2), knows(1, 2), sent(inv(0), inv(2), data(2)))
	fwd := func(acks int) api.Msg { return api.Msg{Kind: api.FwdM, To: 3, Line: 1, For: 2, Acks: acks} }
	comes(t, "another one owns it", three(knows(1, 3)), m, busy(1, 2), knows(1, 2), sent(fwd(0)))
	comes(t, "another one owns it, itself shares", three(knows(1, 3, 1)), m, busy(1, 2), knows(1, 2), sent(fwd(0)))
	comes(t, "another one owns it, a third one shares", three(knows(1, 3, 0, 1)), m, busy(1, 2), knows(1, 2), sent(inv(0), fwd(1)))
	keep := func(acks int) api.Msg {
		return api.Msg{Kind: api.Data, To: 2, Line: 1, Acks: acks, Own: true, Num: 1}
	}
	comes(t, "itself owns it, alone", three(knows(1, 2)), m, busy(1, 2), sent(keep(0)))
	comes(t, "itself owns it, others share", three(knows(1, 2, 0, 2)), m, busy(1, 2), knows(1, 2), sent(inv(0), inv(2), keep(2)))
	four := turned(fresh(4, 16), knows(15, 0, 0, 1, 2, 3), home(15, top))
	to := func(kind, n int) api.Msg { return api.Msg{Kind: kind, To: n, Line: 15, For: 4} }
	comes(t, "the last core and line", four, api.Msg{Kind: api.GetM, From: 4, Line: 15, For: 4}, busy(15, 4), knows(15, 4),
		sent(to(api.Inv, 1), to(api.Inv, 2), to(api.Inv, 3), api.Msg{Kind: api.Data, To: 4, Line: 15, Acks: 3, Own: true, Val: top}))
}

// P10.3: a Busy line: Nack goes back for GetS, GetM and Put, whoever it is Busy for, and nothing else is done.
func TestBusyLine(t *testing.T) {
	for who := 1; who <= 3; who++ {
		for from := 1; from <= 3; from++ {
			p := three(busy(1, who), knows(1, from))
			nack := sent(api.Msg{Kind: api.Nack, To: from, Line: 1})
			comes(t, "GetS", p, api.Msg{Kind: api.GetS, From: from, Line: 1, For: from}, nack)
			comes(t, "GetM", p, api.Msg{Kind: api.GetM, From: from, Line: 1, For: from}, nack)
			comes(t, "Put", p, api.Msg{Kind: api.Put, From: from, Line: 1, Val: 9}, nack)
		}
	}
}

// P10.3: GetS and GetM are for the one that sent them; else they are passed by, of a Busy line too.
func TestAskedForAnother(t *testing.T) {
	for _, kind := range []int{api.GetS, api.GetM} {
		for _, who := range []int{0, 1, 2} {
			for _, other := range []int{0, 1, 3, 4, 255} {
				passes(t, "for another one", three(busy(1, who)), api.Msg{Kind: kind, From: 2, Line: 1, For: other})
			}
		}
	}
}

// P10.3: Put comes home: the owner's word is at home; PutAck goes back in any case.
func TestPutComesHome(t *testing.T) {
	m := api.Msg{Kind: api.Put, From: 2, Line: 1, Val: top}
	ack := sent(api.Msg{Kind: api.PutAck, To: 2, Line: 1})
	comes(t, "the owner", three(knows(1, 2)), m, knows(1, 0), home(1, top), ack)
	comes(t, "the owner, others share", three(knows(1, 2, 0, 2)), m, knows(1, 0, 0, 2), home(1, top), ack)
	comes(t, "another one owns it", three(knows(1, 3)), m, ack)
	comes(t, "another one owns it, it shares", three(knows(1, 3, 1)), m, ack)
	comes(t, "nobody owns it", three(knows(1, 0, 1)), m, ack)
	comes(t, "another line is Busy", three(knows(1, 2), busy(0, 2)), m, knows(1, 0), home(1, top), ack)
	m.For, m.Acks, m.Own, m.Num = 3, 7, true, 9
	comes(t, "with more than it needs", three(knows(1, 2)), m, knows(1, 0), home(1, top), ack)
}

// P10.3: Free comes home: if the line is Busy for the sender, it is so no more.
func TestFreeComesHome(t *testing.T) {
	m := api.Msg{Kind: api.Free, From: 2, Line: 1}
	comes(t, "Busy for it", three(busy(1, 2), busy(0, 2)), m, busy(1, 0))
	passes(t, "Busy for another one", three(busy(1, 1), busy(0, 2)), m)
	passes(t, "Busy for the next one", three(busy(1, 3)), m)
	passes(t, "not Busy", three(busy(0, 2)), m)
}

// P10.3: Data comes to a core that waits for it: what it waits for then, if acknowledgements are still to come, or how it has the line.
func TestDataComes(t *testing.T) {
	m := api.Msg{Kind: api.Data, To: 2, Line: 1, Val: 70}
	free := sent(api.Msg{Kind: api.Free, From: 2, Line: 1})
	ends := func(what string, wait api.Wait, m api.Msg, s int, w uint32) {
		t.Helper()
		comes(t, what, three(waits(1, wait)), m, waits(1, api.Wait{}), has(1, 1, s, w), free)
	}
	read, write := api.Wait{Line: 2}, api.Wait{Line: 2, Write: true}
	ends("to read", read, m, api.Shared, 70)
	ends("to write", write, m, api.Mod, 70)
	own, keep, both := m, m, m
	own.Own, keep.Num, both.Own, both.Num = true, 1, true, 1
	ends("to read, Own", read, own, api.Excl, 70)
	ends("to write, Own", write, own, api.Mod, 70)
	ends("to read, Keep", read, keep, api.Shared, 61)
	ends("to write, Keep", write, keep, api.Mod, 61)
	ends("to read, Own and Keep", read, both, api.Excl, 61)
	ends("to write, Own and Keep", write, both, api.Mod, 61)
	for _, num := range []uint32{2, 3, 256, 257, top} {
		m.Num = num
		ends("a Num that isn't 1", read, m, api.Shared, 70)
	}
	m.Num, m.From, m.For = 0, 3, 1
	ends("from another one", read, m, api.Shared, 70)
	m.From = 2
	ends("from itself", write, m, api.Mod, 70)
}

// P10.3: Data that needs more acknowledgements than came: it Came, and the core waits on; just so many, or more, end it.
func TestDataNeeds(t *testing.T) {
	m := api.Msg{Kind: api.Data, To: 2, Line: 1, Acks: 2, Own: true, Num: 1, Val: 70}
	free := sent(api.Msg{Kind: api.Free, From: 2, Line: 1})
	for got := 0; got <= 3; got++ {
		for _, write := range []bool{false, true} {
			p := three(has(1, 1, api.Shared, 61), waits(1, api.Wait{Line: 2, Write: write, Got: got}))
			s := api.Excl
			if write {
				s = api.Mod
			}
			if got < 2 {
				comes(t, "too few came", p, m, waits(1, api.Wait{Line: 2, Write: write, Came: true, Own: true, Keep: true, Need: 2, Got: got, Val: 70}))
			} else {
				comes(t, "all came", p, m, waits(1, api.Wait{}), state(1, 1, s), free)
			}
		}
	}
	plain := api.Msg{Kind: api.Data, To: 2, Line: 1, Acks: 255, Val: 70}
	comes(t, "255 are needed", three(waits(1, api.Wait{Line: 2, Write: true, Got: 254})), plain, waits(1, api.Wait{Line: 2, Write: true, Came: true, Need: 255, Got: 254, Val: 70}))
	comes(t, "255 are needed, and came", three(waits(1, api.Wait{Line: 2, Write: true, Got: 255})), plain, waits(1, api.Wait{}), has(1, 1, api.Mod, 70), free)
	old := api.Wait{Line: 2, Own: true, Keep: true, Need: 9, Got: 1, Val: 3}
	comes(t, "what it said ahead of its coming is nothing", three(waits(1, old)), plain, waits(1, api.Wait{Line: 2, Came: true, Need: 255, Got: 1, Val: 70}))
}

// P10.3: Data that nobody waits for.
func TestDataIsPassedBy(t *testing.T) {
	m := api.Msg{Kind: api.Data, To: 2, Line: 1, Val: 70}
	passes(t, "it doesn't wait", three(), m)
	passes(t, "it waits for another line", three(waits(1, api.Wait{Line: 1})), m)
	passes(t, "it gives back", three(waits(1, api.Wait{Line: 2, Back: true})), m)
	passes(t, "it came already", three(waits(1, api.Wait{Line: 2, Came: true, Need: 1})), m)
	passes(t, "it came already, and needs nothing", three(waits(1, api.Wait{Line: 2, Write: true, Came: true, Need: 1, Got: 1})), m)
	passes(t, "another core waits", three(waits(0, api.Wait{Line: 2}), waits(2, api.Wait{Line: 2})), m)
	m.To = 0
	m.From = 1
	passes(t, "to home", three(waits(0, api.Wait{Line: 2}), busy(1, 1)), m)
}

// P10.3: Ack comes to a core that waits to write: one more; the last one that is needed ends it, if the word came.
func TestAckComes(t *testing.T) {
	m := api.Msg{Kind: api.Ack, From: 3, To: 2, Line: 1}
	free := sent(api.Msg{Kind: api.Free, From: 2, Line: 1})
	for got := 0; got < 255; got += 127 {
		wait := api.Wait{Line: 2, Write: true, Got: got, Need: 0}
		more := wait
		more.Got++
		comes(t, "the word didn't come", three(waits(1, wait)), m, waits(1, more))
	}
	came := api.Wait{Line: 2, Write: true, Came: true, Own: true, Need: 3, Got: 1, Val: 70}
	more := came
	more.Got = 2
	comes(t, "one is missing still", three(waits(1, came)), m, waits(1, more))
	comes(t, "it is the last one", three(waits(1, more)), m, waits(1, api.Wait{}), has(1, 1, api.Mod, 70), free)
	more.Keep = true
	comes(t, "it is the last one, Keep", three(waits(1, more)), m, waits(1, api.Wait{}), state(1, 1, api.Mod), free)
	more.Got = 9
	comes(t, "more than are needed", three(waits(1, more)), m, waits(1, api.Wait{}), state(1, 1, api.Mod), free)
	last := api.Wait{Line: 2, Write: true, Came: true, Need: 255, Got: 254, Val: 70}
	comes(t, "the 255th", three(waits(1, last)), m, waits(1, api.Wait{}), has(1, 1, api.Mod, 70), free)
	m.From = 0
	comes(t, "from home", three(waits(1, last)), m, waits(1, api.Wait{}), has(1, 1, api.Mod, 70), free)
}

// P10.3: Ack that doesn't count.
func TestAckIsPassedBy(t *testing.T) {
	m := api.Msg{Kind: api.Ack, From: 3, To: 2, Line: 1}
	passes(t, "it doesn't wait", three(), m)
	passes(t, "it doesn't wait, to write", three(waits(1, api.Wait{Write: true, Came: true})), m)
	passes(t, "it waits for another line", three(waits(1, api.Wait{Line: 1, Write: true})), m)
	passes(t, "it waits to read", three(waits(1, api.Wait{Line: 2, Came: true, Need: 1})), m)
	passes(t, "it gives back", three(waits(1, api.Wait{Line: 2, Back: true})), m)
	passes(t, "255 came", three(waits(1, api.Wait{Line: 2, Write: true, Got: 255})), m)
	passes(t, "255 came, and the word, and that is enough", three(waits(1, api.Wait{Line: 2, Write: true, Came: true, Need: 255, Got: 255})), m)
	passes(t, "another core waits", three(waits(0, api.Wait{Line: 2, Write: true})), m)
	passes(t, "to home", three(busy(1, 3)), api.Msg{Kind: api.Ack, From: 3, Line: 1})
}

// P10.3: Inv comes: of Shared its State is Invalid; Ack goes to the one it is for, in any case.
func TestInvComes(t *testing.T) {
	for s := api.Invalid; s <= api.Owned; s++ {
		for _, to := range []int{0, 1, 2, 3} {
			m := api.Msg{Kind: api.Inv, To: 2, Line: 1, For: to}
			ack := sent(api.Msg{Kind: api.Ack, From: 2, To: to, Line: 1})
			then := s
			if s == api.Shared {
				then = api.Invalid
			}
			comes(t, "Inv", three(state(1, 1, s)), m, state(1, 1, then), ack)
			wait := waits(1, api.Wait{Line: 2, Write: true, Got: 1})
			comes(t, "Inv, it waits for the line", three(state(1, 1, s), wait), m, state(1, 1, then), ack)
			m.From = 3
			comes(t, "Inv from another core", three(state(1, 1, s)), m, state(1, 1, then), ack)
		}
	}
	passes(t, "Inv to home", three(), api.Msg{Kind: api.Inv, From: 1, Line: 1, For: 2})
}

// P10.3: FwdS and FwdM come: who has the line Excl, Mod or Owned sends it, whether or not it waits.
func TestFwdComes(t *testing.T) {
	for _, wait := range []api.Wait{{}, {Line: 1}, {Line: 2, Write: true}, {Line: 2, Back: true}} {
		for s := api.Excl; s <= api.Owned; s++ {
			for _, to := range []int{0, 1, 2, 3} {
				p := three(waits(1, wait), state(1, 1, s))
				data := api.Msg{Kind: api.Data, From: 2, To: to, Line: 1, Acks: 7, Val: 61}
				m := api.Msg{Kind: api.FwdS, To: 2, Line: 1, For: to, Acks: 7}
				comes(t, "FwdS", p, m, state(1, 1, api.Owned), sent(data))
				m.Own, m.Num, m.Val = true, 1, 9
				comes(t, "FwdS with more than it needs", p, m, state(1, 1, api.Owned), sent(data))
				data.Own, m.Kind = true, api.FwdM
				comes(t, "FwdM with more than it needs", p, m, state(1, 1, api.Invalid), sent(data))
				m.Own, m.Num, m.Val = false, 0, 0
				comes(t, "FwdM", p, m, state(1, 1, api.Invalid), sent(data))
			}
		}
		for _, s := range []int{api.Invalid, api.Shared} {
			p := three(waits(1, wait), state(1, 1, s), state(0, 1, api.Mod), state(1, 0, api.Mod))
			passes(t, "FwdS", p, api.Msg{Kind: api.FwdS, To: 2, Line: 1, For: 1})
			passes(t, "FwdM", p, api.Msg{Kind: api.FwdM, To: 2, Line: 1, For: 1})
		}
	}
	passes(t, "FwdM to home", three(knows(1, 1)), api.Msg{Kind: api.FwdM, From: 1, Line: 1, For: 2})
	comes(t, "255 acknowledgements", three(state(1, 1, api.Mod)), api.Msg{Kind: api.FwdM, To: 2, Line: 1, For: 3, Acks: 255},
		state(1, 1, api.Invalid), sent(api.Msg{Kind: api.Data, From: 2, To: 3, Line: 1, Acks: 255, Own: true, Val: 61}))
}

// P10.3: Nack comes to a core that waits, and to which nothing came: it asks again, or gives back again, or waits no more.
func TestNackComes(t *testing.T) {
	m := api.Msg{Kind: api.Nack, To: 2, Line: 1}
	read, write, back := waits(1, api.Wait{Line: 2}), waits(1, api.Wait{Line: 2, Write: true, Got: 1}), waits(1, api.Wait{Line: 2, Back: true})
	for s := api.Invalid; s <= api.Owned; s++ {
		st := state(1, 1, s)
		comes(t, "to read", three(st, read), m, sent(api.Msg{Kind: api.GetS, From: 2, Line: 1, For: 2}))
		comes(t, "to write", three(st, write), m, sent(api.Msg{Kind: api.GetM, From: 2, Line: 1, For: 2}))
		if s >= api.Excl {
			comes(t, "to give back", three(st, back), m, sent(api.Msg{Kind: api.Put, From: 2, Line: 1, Val: 61}))
		} else {
			comes(t, "to give back what it hasn't", three(st, back), m, waits(1, api.Wait{}))
		}
		passes(t, "it doesn't wait", three(st), m)
		passes(t, "it waits for another line", three(st, waits(1, api.Wait{Line: 1, Back: true})), m)
		for _, wait := range []api.Wait{{Line: 2}, {Line: 2, Write: true, Need: 1}, {Line: 2, Back: true}} {
			wait.Came = true
			passes(t, "it came", three(st, waits(1, wait)), m)
		}
	}
	passes(t, "Nack to home", three(busy(1, 1), waits(0, api.Wait{Line: 2})), api.Msg{Kind: api.Nack, From: 1, Line: 1})
}

// P10.3: PutAck comes: if it gives the line back, it is Invalid, and waits no more.
func TestPutAckComes(t *testing.T) {
	m := api.Msg{Kind: api.PutAck, To: 2, Line: 1}
	for s := api.Invalid; s <= api.Owned; s++ {
		st := state(1, 1, s)
		comes(t, "it gives back", three(st, waits(1, api.Wait{Line: 2, Back: true})), m, waits(1, api.Wait{}), state(1, 1, api.Invalid))
		passes(t, "it doesn't wait", three(st), m)
		passes(t, "it doesn't wait, Back", three(st, waits(1, api.Wait{Back: true})), m)
		passes(t, "it reads", three(st, waits(1, api.Wait{Line: 2})), m)
		passes(t, "it writes", three(st, waits(1, api.Wait{Line: 2, Write: true, Came: true})), m)
		passes(t, "it gives another line back", three(st, waits(1, api.Wait{Line: 1, Back: true})), m)
	}
	passes(t, "to home", three(waits(0, api.Wait{Line: 2, Back: true})), api.Msg{Kind: api.PutAck, From: 1, Line: 1})
}

// P10.3: whatever is about no line, from or to or for nobody, or to home from home, is passed by; so is what home or a core has no use for.
func TestPassedBy(t *testing.T) {
	p := three(has(1, 1, api.Shared, 61), has(2, 1, api.Mod, 62), knows(1, 3, 1), busy(0, 2), waits(0, api.Wait{Line: 2, Write: true, Got: 1}), waits(1, api.Wait{Line: 1, Back: true}))
	for kind := api.GetS; kind <= api.Free; kind++ {
		for to := 0; to <= 3; to++ {
			for _, x := range []int{4, 5, 128, 253, 254, 255} {
				passes(t, "from nobody", p, api.Msg{Kind: kind, From: x, To: to, Line: 1, For: x % 4})
				passes(t, "from and for nobody", p, api.Msg{Kind: kind, From: x, To: to, Line: 1, For: x})
				passes(t, "to nobody", p, api.Msg{Kind: kind, From: to, To: x, Line: 1, For: to})
				passes(t, "for nobody", p, api.Msg{Kind: kind, From: 1, To: to, Line: 1, For: x})
			}
			for _, line := range []int{2, 3, 16, 17, 254, 255} {
				passes(t, "about no line", p, api.Msg{Kind: kind, From: 1, To: to, Line: line, For: 1})
			}
		}
		passes(t, "home from home", p, api.Msg{Kind: kind, Line: 0})
		passes(t, "home from home", p, api.Msg{Kind: kind, Line: 1, For: 3})
	}
	for _, kind := range []int{api.Data, api.Inv, api.Ack, api.FwdS, api.FwdM, api.PutAck, api.Nack} {
		passes(t, "not for home", p, api.Msg{Kind: kind, From: 2, Line: 1, For: 2})
		passes(t, "not for home, of a Busy line", p, api.Msg{Kind: kind, From: 2, Line: 0, For: 2})
	}
	for _, kind := range []int{api.GetS, api.GetM, api.Put, api.Free} {
		for to := 1; to <= 3; to++ {
			passes(t, "not for a core", p, api.Msg{Kind: kind, From: to, To: to, Line: 1, For: to})
			passes(t, "not for a core", p, api.Msg{Kind: kind, To: to, Line: 0})
		}
	}
}

// P10.3: a frame that isn't read goes, and its error; nothing else is done.
func TestFramesThatAreNotRead(t *testing.T) {
	ask := api.Msg{Kind: api.GetM, From: 1, Line: 1, For: 1}
	for _, c := range []struct {
		f   []byte
		err api.Errno
	}{{spoilt(ask), api.ErrSum}, {make([]byte, 19), api.ErrSum}, {formless(0, 0), api.ErrForm}, {formless(12, 1), api.ErrForm}, {formless(255, 0), api.ErrForm}, {formless(1, 2), api.ErrForm}} {
		p := three(idle(1))
		becomes(t, "the last one", turned(p, laid(c.f)), deed{call: "Deliver", k: 1}, done{p: p, err: c.err})
		behind := turned(p, sent(ask))
		becomes(t, "between", turned(p, laid(c.f), sent(ask)), deed{call: "Deliver", k: 1}, done{p: behind, err: c.err})
		becomes(t, "first", turned(three(), laid(c.f), sent(ask)), deed{call: "Deliver", k: 0}, done{p: three(sent(ask)), err: c.err})
	}
	for bit := range 8 * 19 {
		f := asked(ask)
		f[bit/8] ^= 1 << (bit % 8)
		p := three(waits(0, api.Wait{Line: 2, Write: true}))
		becomes(t, "one bit is turned", turned(p, laid(f)), deed{call: "Deliver"}, done{p: p, err: api.ErrSum})
	}
}

// P10.3: the room, without the frame, for cores and one more; ErrFull, if there is less, whatever comes, and all stays.
func TestRoomToDeliver(t *testing.T) {
	for cores := 1; cores <= 4; cores++ {
		p := turned(fresh(cores, 1), home(0, 8))
		ask := sent(api.Msg{Kind: api.GetM, From: 1, For: 1})
		least := turned(p, idle(63-cores), ask)
		for k := range 63 - cores {
			becomes(t, "just enough", least, deed{call: "Deliver", k: k}, deed{call: "Deliver", k: k}.asks(least))
		}
		becomes(t, "just enough", least, deed{call: "Deliver", k: 63 - cores},
			done{p: turned(p, idle(63-cores), busy(0, 1), knows(0, 1), sent(api.Msg{Kind: api.Data, To: 1, Own: true, Val: 8}))})
		for more := 1; more <= cores; more++ {
			less := turned(least, idle(more-1), laid(spoilt(api.Msg{Kind: api.Free, From: 1})))
			for k := range less.Pool.Frames {
				fails(t, "one less", less, deed{call: "Deliver", k: k}, api.ErrFull)
			}
			fails(t, "no such frame", less, deed{call: "Deliver", k: len(less.Pool.Frames)}, api.ErrNone)
		}
	}
}

// P10.3: the k-th frame is the one that comes, whichever; k at -1, 0, the last one, and one more, and far from there.
func TestWhichFrameComes(t *testing.T) {
	p := turned(fresh(3, 3), busy(0, 1), busy(1, 2), busy(2, 3))
	free := func(n int) api.Msg { return api.Msg{Kind: api.Free, From: n + 1, Line: n} }
	all := turned(p, sent(free(0), free(1), free(2)))
	for k := range 3 {
		left := slices.Delete([]api.Msg{free(0), free(1), free(2)}, k, k+1)
		becomes(t, "the frame k", all, deed{call: "Deliver", k: k}, done{p: turned(p, busy(k, 0), sent(left...))})
	}
	for _, k := range append([]int{-1, 3, 4, 63, 64}, far...) {
		fails(t, "no such frame", all, deed{call: "Deliver", k: k}, api.ErrNone)
		fails(t, "nothing is under way", p, deed{call: "Deliver", k: k}, api.ErrNone)
	}
}

// P10.1 to P10.3: the chapter's example: core 0 wants to write: GetM, Data (Own), Free: it has it, and Busy is 0.
func TestExample(t *testing.T) {
	p, err := proto.New(2, 1)
	if err != api.OK {
		t.Fatal(err)
	}
	if p, err = proto.Want(p, 0, 0, true); err != api.OK {
		t.Fatal(err)
	}
	for _, want := range []api.Msg{{Kind: api.GetM, From: 1, For: 1}, {Kind: api.Data, To: 1, Own: true}, {Kind: api.Free, From: 1}} {
		if len(p.Pool.Frames) != 1 || proto.Has(p, 0, 0, true) && want.Kind != api.Free {
			t.Fatalf("ahead of %+v: %+v", want, p)
		}
		if m, err := frame.Read(p.Pool.Frames[0]); m != want || err != api.OK {
			t.Fatalf("under way: %+v, %d; want %+v", m, err, want)
		}
		if p, err = proto.Deliver(p, 0); err != api.OK {
			t.Fatal(err)
		}
	}
	want := turned(fresh(2, 1), state(0, 0, api.Mod), knows(0, 1))
	if !alike(p, want) || !proto.Has(p, 0, 0, true) || p.Busy[0] != 0 {
		t.Errorf("%+v; want %+v", p, want)
	}
}

// drawn is a system that may be, drawn: whoever has, waits, owns and shares whatever, and messages under way that are about it.
func drawn(draw func(int) int) api.Proto {
	cores, lines := 1+draw(4), 1+draw(3)
	p := fresh(cores, lines)
	yes := func() bool { return draw(2) == 1 }
	for n := range cores {
		for line := range lines {
			p.State[n][line], p.Val[n][line] = draw(5), uint32(draw(100))
		}
		p.Wait[n] = api.Wait{Line: draw(lines + 1), Write: yes(), Back: draw(3) == 0, Came: yes(), Own: yes(), Keep: yes(), Need: draw(3), Got: draw(3), Val: uint32(draw(100))}
		if draw(9) == 0 {
			p.Wait[n].Got = 254 + draw(2)
		}
	}
	for line := range lines {
		p.Home[line], p.Busy[line] = uint32(draw(100)), max(0, draw(2*cores+1)-cores)
		p.Dir[line].Owner = draw(cores + 1)
		for n := range cores {
			p.Dir[line].Share[n] = yes() && p.Dir[line].Owner != n+1
		}
	}
	for range draw(12) {
		laid(drawnFrame(draw, cores, lines))(&p)
	}
	if draw(8) == 0 {
		idle(max(0, 62-cores+draw(5)-len(p.Pool.Frames)))(&p)
	}
	return turned(p, func(p *api.Proto) { p.Pool.Frames = p.Pool.Frames[:min(64, len(p.Pool.Frames))] })
}

// drawnFrame is a frame of a message about such a system, or, seldom, about no line, for nobody, or spoilt.
func drawnFrame(draw func(int) int, cores, lines int) []byte {
	m := api.Msg{Kind: 1 + draw(11), From: draw(cores + 1), To: draw(cores + 1), Line: draw(lines), For: draw(cores + 1), Acks: draw(3), Own: draw(2) == 1, Num: uint32(draw(3)), Val: uint32(draw(100))}
	if draw(2) == 0 {
		m.For = m.From
	}
	switch draw(20) {
	case 0:
		m.Line += lines
	case 1:
		m.From += cores
	case 2:
		m.To += cores
	case 3:
		m.For += cores
	case 4:
		return spoilt(m)
	}
	return asked(m)
}

// P10.1 to P10.3: each call, of drawn systems, is what the document asks.
func TestDrawnSystems(t *testing.T) {
	for seed := range 1500 {
		p := drawn(lot(uint64(seed)))
		if !may(p) {
			t.Fatalf("seed %d: a system of the tests that may not be: %+v", seed, p)
		}
		for _, d := range deeds(p) {
			becomes(t, "drawn", p, d, d.asks(p))
		}
		if t.Failed() {
			t.Fatalf("seed %d", seed)
		}
	}
}
