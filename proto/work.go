package proto

import (
	"math"

	"backstay/api"
	"backstay/direc"
	"backstay/pool"
)

// work is a system that is changed, by one of it, about a line; send is how that one sends.
type work struct {
	api.Proto
	send func(m api.Msg)
}

// sender is who sends, about which line, and what is under way.
type sender struct {
	pool       *api.Pool
	from, line int
}

// send lays m under way as the last one. It may be, and there is room: each call that sends looks for it ahead.
func (s sender) send(m api.Msg) {
	m.From, m.Line = s.from, s.line
	*s.pool, _ = pool.Send(*s.pool, m)
}

// begun is the work on a copy of p, where from sends about the line.
func begun(p api.Proto, from, line int) *work {
	w := &work{Proto: copied(p)}
	w.send = sender{&w.Pool, from, line}.send
	return w
}

// asks has the core n ask home for what it waits for.
func (w *work) asks(n int) {
	kind := api.GetS
	if w.Wait[n].Write {
		kind = api.GetM
	}
	w.send(api.Msg{Kind: kind, For: n + 1})
}

// gives has the core n send its word of the line home.
func (w *work) gives(n, line int) {
	w.send(api.Msg{Kind: api.Put, Val: w.Val[n][line]})
}

// comes does what the message m, which went from what is under way, does to the system; one about no line, or from, to or for nobody, is passed by.
func (w *work) comes(m api.Msg) {
	cores := len(w.Wait)
	if m.Line >= len(w.Home) || m.From > cores || m.To > cores || m.For > cores {
		return
	}
	switch {
	case m.To > 0:
		w.comesToCore(m, m.To-1)
	case m.From > 0:
		w.comesHome(m)
	}
}

// comesHome does what m does at home, from a core.
func (w *work) comesHome(m api.Msg) {
	switch m.Kind {
	case api.GetS, api.GetM:
		w.isAsked(m)
	case api.Put:
		w.isPut(m)
	case api.Free:
		if w.Busy[m.Line] == m.From {
			w.Busy[m.Line] = 0
		}
	}
}

// isAsked does at home what a core's asking does.
func (w *work) isAsked(m api.Msg) {
	switch {
	case m.For != m.From:
		return
	case w.Busy[m.Line] > 0:
		w.send(api.Msg{Kind: api.Nack, To: m.From})
		return
	}
	w.Busy[m.Line] = m.From
	from, offs := w.entered(m)
	for _, n := range offs {
		w.send(api.Msg{Kind: api.Inv, To: n + 1, For: m.From})
	}
	w.send(w.answer(m, from, len(offs)))
}

// entered has the directory know what m asks for, and answers from whom the word comes, and who is told off.
func (w *work) entered(m api.Msg) (from int, offs []int) {
	e := &w.Dir[m.Line]
	if m.Kind == api.GetM {
		*e, from, offs, _ = direc.Write(*e, m.From-1)
		return from, offs
	}
	*e, from, _ = direc.Read(*e, m.From-1)
	return from, nil
}

// answer is what home sends for m behind the telling off of so many: the word, or who is to send it.
func (w *work) answer(m api.Msg, from, offs int) api.Msg {
	e := w.Dir[m.Line]
	data := api.Msg{Kind: api.Data, To: m.From, Acks: offs, Own: e.Owner == m.From && direc.Alone(e)}
	switch {
	case from == 0:
		data.Val = w.Home[m.Line]
		return data
	case from == m.From:
		data.Num = 1
		return data
	case m.Kind == api.GetM:
		return api.Msg{Kind: api.FwdM, To: from, For: m.From, Acks: offs}
	}
	return api.Msg{Kind: api.FwdS, To: from, For: m.From, Acks: offs}
}

// isPut does at home what a word that is given back does.
func (w *work) isPut(m api.Msg) {
	if w.Busy[m.Line] > 0 {
		w.send(api.Msg{Kind: api.Nack, To: m.From})
		return
	}
	if e, err := direc.Back(w.Dir[m.Line], m.From-1); err == api.OK {
		w.Dir[m.Line], w.Home[m.Line] = e, m.Val
	}
	w.send(api.Msg{Kind: api.PutAck, To: m.From})
}

// comesToCore does what m does at the core n.
func (w *work) comesToCore(m api.Msg, n int) {
	switch m.Kind {
	case api.Inv:
		w.isToldOff(m, n)
	case api.FwdS, api.FwdM:
		w.isToSend(m, n)
	default:
		if waitsFor(w.Proto, n, m.Line) {
			w.comesToWaiting(m, n)
		}
	}
}

// comesToWaiting does what m does at the core n, which waits for the line.
func (w *work) comesToWaiting(m api.Msg, n int) {
	switch m.Kind {
	case api.Data:
		w.hasData(m, n)
	case api.Ack:
		w.hasAck(m, n)
	case api.Nack:
		w.asksAgain(m, n)
	case api.PutAck:
		if w.Wait[n].Back {
			w.State[n][m.Line], w.Wait[n] = api.Invalid, api.Wait{}
		}
	}
}

// isToldOff takes the line from the core n, if it shares it; who is to write is told in any case.
func (w *work) isToldOff(m api.Msg, n int) {
	if w.State[n][m.Line] == api.Shared {
		w.State[n][m.Line] = api.Invalid
	}
	w.send(api.Msg{Kind: api.Ack, To: m.For})
}

// isToSend has the core n, if it owns the line, send it to the one that asked.
func (w *work) isToSend(m api.Msg, n int) {
	if !owns(w.Proto, n, m.Line) {
		return
	}
	w.send(api.Msg{Kind: api.Data, To: m.For, Acks: m.Acks, Own: m.Kind == api.FwdM, Val: w.Val[n][m.Line]})
	w.State[n][m.Line] = api.Owned
	if m.Kind == api.FwdM {
		w.State[n][m.Line] = api.Invalid
	}
}

// hasData keeps the word that came for the core n, which waits for it.
func (w *work) hasData(m api.Msg, n int) {
	wait := &w.Wait[n]
	if wait.Back || wait.Came {
		return
	}
	wait.Came, wait.Own, wait.Keep = true, m.Own, m.Num == 1
	wait.Need, wait.Val = m.Acks, m.Val
	w.ends(n, m.Line)
}

// hasAck counts what the core n, which waits, is acknowledged.
func (w *work) hasAck(m api.Msg, n int) {
	wait := &w.Wait[n]
	if !wait.Write || wait.Got == math.MaxUint8 {
		return
	}
	wait.Got++
	w.ends(n, m.Line)
}

// ends ends the core n's waiting, if all came that it waits for.
func (w *work) ends(n, line int) {
	wait := w.Wait[n]
	if !wait.Came || wait.Got < wait.Need {
		return
	}
	if !wait.Keep {
		w.Val[n][line] = wait.Val
	}
	w.State[n][line] = stateBehind(wait)
	w.send(api.Msg{Kind: api.Free})
	w.Wait[n] = api.Wait{}
}

// stateBehind is how a core has the line that it waited for so.
func stateBehind(wait api.Wait) int {
	switch {
	case wait.Write:
		return api.Mod
	case wait.Own:
		return api.Excl
	}
	return api.Shared
}

// asksAgain has the core n, which waits, say again what home had no time for; what it has no more it needn't give back.
func (w *work) asksAgain(m api.Msg, n int) {
	wait := w.Wait[n]
	switch {
	case wait.Came:
		return
	case !wait.Back:
		w.asks(n)
	case owns(w.Proto, n, m.Line):
		w.gives(n, m.Line)
	default:
		w.Wait[n] = api.Wait{}
	}
}
