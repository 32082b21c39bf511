package proto_test

import (
	"bytes"
	"math"
	"slices"
	"testing"

	"backstay/api"
	"backstay/frame"
	"backstay/proto"
	"backstay/word"
)

// far are numbers of no core, line, state, wait or frame, some of which a narrower integer would take for one.
var far = []int{-2, -3, -255, -256, 256, 257, 258, 65536, 65536 + 1, 1 << 32, 1<<32 + 1, math.MaxInt32, math.MinInt32, math.MaxInt, math.MaxInt - 1, math.MinInt, math.MinInt + 1}

// turn is something that a system is turned by.
type turn func(p *api.Proto)

// fresh is a system as a new one is, made without the program.
func fresh(cores, lines int) api.Proto {
	p := api.Proto{Wait: make([]api.Wait, cores), Home: make([]uint32, lines), Dir: make([]api.Entry, lines), Busy: make([]int, lines)}
	for range cores {
		p.State = append(p.State, make([]int, lines))
		p.Val = append(p.Val, make([]uint32, lines))
	}
	for line := range lines {
		p.Dir[line].Share = make([]bool, cores)
	}
	return p
}

// copied is p in memory of its own.
func copied(p api.Proto) api.Proto {
	p.State, p.Val, p.Pool.Frames = copiedRows(p.State), copiedRows(p.Val), copiedRows(p.Pool.Frames)
	p.Wait, p.Home, p.Busy, p.Dir = slices.Clone(p.Wait), slices.Clone(p.Home), slices.Clone(p.Busy), slices.Clone(p.Dir)
	for line := range p.Dir {
		p.Dir[line].Share = slices.Clone(p.Dir[line].Share)
	}
	return p
}

func copiedRows[T any](rows [][]T) [][]T {
	var l [][]T
	for _, row := range rows {
		l = append(l, slices.Clone(row))
	}
	return l
}

// turned is p in memory of its own, and turned.
func turned(p api.Proto, turns ...turn) api.Proto {
	p = copied(p)
	for _, t := range turns {
		t(&p)
	}
	return p
}

func state(n, line, s int) turn      { return func(p *api.Proto) { p.State[n][line] = s } }
func val(n, line int, w uint32) turn { return func(p *api.Proto) { p.Val[n][line] = w } }
func has(n, line, s int, w uint32) turn {
	return func(p *api.Proto) { p.State[n][line], p.Val[n][line] = s, w }
}
func waits(n int, w api.Wait) turn { return func(p *api.Proto) { p.Wait[n] = w } }
func home(line int, w uint32) turn { return func(p *api.Proto) { p.Home[line] = w } }
func busy(line, who int) turn      { return func(p *api.Proto) { p.Busy[line] = who } }
func laid(frames ...[]byte) turn {
	return func(p *api.Proto) { p.Pool.Frames = append(p.Pool.Frames, frames...) }
}

// knows is what the directory knows of the line: the owner, from 1 on, and the cores that share, from 0 on.
func knows(line, owner int, shares ...int) turn {
	return func(p *api.Proto) {
		p.Dir[line] = api.Entry{Owner: owner, Share: make([]bool, len(p.Wait))}
		for _, n := range shares {
			p.Dir[line].Share[n] = true
		}
	}
}

// asked is the frame of a message that may be; what a frame is, layer 5's own tests hold.
func asked(m api.Msg) []byte {
	f, err := frame.Put(m)
	if err != api.OK {
		panic("a message of the tests that may not be")
	}
	return f
}

// sent has these messages go under way, behind all that are.
func sent(ms ...api.Msg) turn {
	var l [][]byte
	for _, m := range ms {
		l = append(l, asked(m))
	}
	return laid(l...)
}

// idleOf has messages of these numbers go under way that do nothing when they come.
func idleOf(numbers ...uint32) turn {
	return func(p *api.Proto) {
		for _, n := range numbers {
			sent(api.Msg{Kind: api.Ack, From: 1, Num: n})(p)
		}
	}
}

// idle has so many of them go under way.
func idle(many int) turn {
	return func(p *api.Proto) {
		for range many {
			idleOf(uint32(len(p.Pool.Frames)))(p)
		}
	}
}

// spoilt is a frame of which one bit was turned.
func spoilt(m api.Msg) []byte {
	f := asked(m)
	f[7] ^= 16
	return f
}

// formless is a frame whose sum fits, of no message: its Kind is none, or its Own neither yes nor no.
func formless(kind, own byte) []byte {
	b := make([]byte, 15)
	b[0], b[6] = kind, own
	return append(b, word.Bytes(frame.Sum(b))...)
}

// alike answers whether a and b are; a list is nil or empty alike.
func alike(a, b api.Proto) bool {
	entries := func(a, b api.Entry) bool { return a.Owner == b.Owner && slices.Equal(a.Share, b.Share) }
	return slices.EqualFunc(a.State, b.State, slices.Equal) && slices.EqualFunc(a.Val, b.Val, slices.Equal) &&
		slices.Equal(a.Wait, b.Wait) && slices.Equal(a.Home, b.Home) && slices.EqualFunc(a.Dir, b.Dir, entries) &&
		slices.Equal(a.Busy, b.Busy) && slices.EqualFunc(a.Pool.Frames, b.Pool.Frames, bytes.Equal)
}

// deed is a call: of which core and line (New takes them for how many), to write or not, with which word, of which frame.
type deed struct {
	call    string
	n, line int
	write   bool
	w       uint32
	k       int
}

// done is what became of it: the system, what was true, the word, and the error.
type done struct {
	p   api.Proto
	yes bool
	w   uint32
	err api.Errno
}

// does is what the program makes of d.
func (d deed) does(p api.Proto) done {
	var got done
	switch d.call {
	case "Right":
		got.yes = proto.Right(p)
	case "New":
		got.p, got.err = proto.New(d.n, d.line)
	case "Has":
		got.yes = proto.Has(p, d.n, d.line, d.write)
	case "Get":
		got.w, got.err = proto.Get(p, d.n, d.line)
	case "Set":
		got.p, got.err = proto.Set(p, d.n, d.line, d.w)
	case "Want":
		got.p, got.err = proto.Want(p, d.n, d.line, d.write)
	case "Evict":
		got.p, got.err = proto.Evict(p, d.n, d.line)
	case "Deliver":
		got.p, got.err = proto.Deliver(p, d.k)
	}
	return got
}

// changes answers whether d is of those that answer a system.
func (d deed) changes() bool {
	return slices.Contains([]string{"Set", "Want", "Evict", "Deliver"}, d.call)
}

// same answers whether a and b are.
func (a done) same(b done) bool {
	return alike(a.p, b.p) && a.yes == b.yes && a.w == b.w && a.err == b.err
}

// told is what the frames of p say, for a test that tells of it.
func told(p api.Proto) []any {
	var l []any
	for _, f := range p.Pool.Frames {
		m, err := frame.Read(f)
		if err != api.OK {
			l = append(l, f)
			continue
		}
		l = append(l, m)
	}
	frames := p.Pool.Frames
	p.Pool.Frames = nil
	return []any{p, len(frames), l}
}

// becomes holds the program to making want of d.
func becomes(t *testing.T, what string, p api.Proto, d deed, want done) {
	t.Helper()
	if got := d.does(p); !got.same(want) {
		t.Errorf("%s: %+v\nof %+v\n= %+v, %t, %d, %d\nwant %+v, %t, %d, %d", what, d, told(p), told(got.p), got.yes, got.w, got.err, told(want.p), want.yes, want.w, want.err)
	}
}

// fails holds the program to that error, and to leaving all as it is.
func fails(t *testing.T, what string, p api.Proto, d deed, err api.Errno) {
	t.Helper()
	want := done{err: err}
	if d.changes() {
		want.p = p
	}
	if d.call == "Has" || d.call == "Right" {
		want.err = api.OK
	}
	becomes(t, what, p, d, want)
}

// between answers whether n is from 0 to most.
func between(n, most int) bool {
	return n >= 0 && n <= most
}

// may answers whether the document lets p be.
func may(p api.Proto) bool {
	cores, lines := len(p.State), len(p.Dir)
	if cores < 1 || cores > 4 || lines < 1 || lines > 16 || len(p.Val) != cores || len(p.Wait) != cores || len(p.Home) != lines || len(p.Busy) != lines {
		return false
	}
	for n := range cores {
		w := p.Wait[n]
		if len(p.State[n]) != lines || len(p.Val[n]) != lines || !between(w.Line, lines) || !between(w.Need, 255) || !between(w.Got, 255) {
			return false
		}
		for line := range lines {
			if !between(p.State[n][line], 4) {
				return false
			}
		}
	}
	for line := range lines {
		e := p.Dir[line]
		if len(e.Share) != cores || !between(e.Owner, cores) || e.Owner > 0 && e.Share[e.Owner-1] || !between(p.Busy[line], cores) {
			return false
		}
	}
	for _, f := range p.Pool.Frames {
		if len(f) != 19 {
			return false
		}
	}
	return len(p.Pool.Frames) <= 64
}

// holds answers whether the core n has the line, as the document says it.
func holds(p api.Proto, n, line int, write bool) bool {
	if p.Wait[n].Line-1 == line {
		return false
	}
	switch p.State[n][line] {
	case api.Shared, api.Owned:
		return !write
	}
	return p.State[n][line] != api.Invalid
}

// asks is what the document asks of d, told without the program.
func (d deed) asks(p api.Proto) done {
	wrong := func(err api.Errno) done {
		if d.changes() {
			return done{p: p, err: err}
		}
		return done{err: err}
	}
	switch {
	case d.call == "Right":
		return done{yes: may(p)}
	case d.call == "New" && (d.n < 1 || d.n > 4 || d.line < 1 || d.line > 16):
		return done{err: api.ErrArg}
	case d.call == "New":
		return done{p: fresh(d.n, d.line)}
	case d.call == "Deliver":
		return d.comes(p)
	}
	if !may(p) || !between(d.n, len(p.Wait)-1) || !between(d.line, len(p.Home)-1) {
		if d.call == "Has" {
			return done{}
		}
		return wrong(api.ErrArg)
	}
	switch d.call {
	case "Has":
		return done{yes: holds(p, d.n, d.line, d.write)}
	case "Get":
		if !holds(p, d.n, d.line, false) {
			return wrong(api.ErrState)
		}
		return done{w: p.Val[d.n][d.line]}
	case "Set":
		if !holds(p, d.n, d.line, true) {
			return wrong(api.ErrState)
		}
		return done{p: turned(p, has(d.n, d.line, api.Mod, d.w))}
	}
	if err := d.begins(p); err != api.OK {
		return wrong(err)
	}
	return done{p: turned(p, d.begun(p)...)}
}

// begins is whether the document lets a core that is there ask, or give back.
func (d deed) begins(p api.Proto) api.Errno {
	gone := p.State[d.n][d.line] == api.Invalid
	switch {
	case p.Wait[d.n].Line != 0:
		return api.ErrState
	case d.call == "Want" && holds(p, d.n, d.line, d.write) || d.call == "Evict" && gone:
		return api.ErrState
	case len(p.Pool.Frames) == 64:
		return api.ErrFull
	}
	return api.OK
}

// begun is what becomes of a core that may ask, or give back.
func (d deed) begun(p api.Proto) []turn {
	m := api.Msg{Kind: api.GetS, From: d.n + 1, Line: d.line, For: d.n + 1}
	wait := api.Wait{Line: d.line + 1, Write: d.write}
	switch {
	case d.call == "Evict" && p.State[d.n][d.line] == api.Shared:
		return []turn{state(d.n, d.line, api.Invalid)}
	case d.call == "Evict":
		m.Kind, m.For, m.Val = api.Put, 0, p.Val[d.n][d.line]
		wait = api.Wait{Line: d.line + 1, Back: true}
	case d.write:
		m.Kind = api.GetM
	}
	return []turn{waits(d.n, wait), sent(m)}
}

// comes is what the document asks of Deliver.
func (d deed) comes(p api.Proto) done {
	frames := p.Pool.Frames
	switch {
	case !may(p):
		return done{p: p, err: api.ErrArg}
	case !between(d.k, len(frames)-1):
		return done{p: p, err: api.ErrNone}
	case 64-(len(frames)-1) < len(p.Wait)+1:
		return done{p: p, err: api.ErrFull}
	}
	left := turned(p, func(p *api.Proto) { p.Pool.Frames = slices.Delete(p.Pool.Frames, d.k, d.k+1) })
	m, err := frame.Read(frames[d.k])
	if err != api.OK {
		return done{p: left, err: err}
	}
	cores := len(p.Wait)
	if m.Line < len(p.Home) && m.From <= cores && m.To <= cores && m.For <= cores {
		if m.To > 0 {
			toCore(&left, m)
		} else if m.From > 0 {
			toHome(&left, m)
		}
	}
	return done{p: left}
}

// toHome does what the document says of a message that comes home.
func toHome(p *api.Proto, m api.Msg) {
	me, e := m.From, &p.Dir[m.Line]
	send := func(kind, to int, more api.Msg) {
		more.Kind, more.To, more.Line = kind, to, m.Line
		sent(more)(p)
	}
	ask := m.Kind == api.GetS || m.Kind == api.GetM
	switch {
	case m.Kind == api.Free && p.Busy[m.Line] == me:
		p.Busy[m.Line] = 0
	case ask && m.For != me:
	case (ask || m.Kind == api.Put) && p.Busy[m.Line] != 0:
		send(api.Nack, me, api.Msg{})
	case m.Kind == api.Put:
		if e.Owner == me {
			e.Owner, p.Home[m.Line] = 0, m.Val
		}
		send(api.PutAck, me, api.Msg{})
	case ask:
		p.Busy[m.Line] = me
		acks, was := entered(e, me, m.Kind == api.GetM, func(n int) { send(api.Inv, n+1, api.Msg{For: me}) })
		alone := e.Owner == me && !slices.Contains(e.Share, true)
		fwd := map[int]int{api.GetS: api.FwdS, api.GetM: api.FwdM}[m.Kind]
		switch was {
		case 0:
			send(api.Data, me, api.Msg{Acks: acks, Own: alone, Val: p.Home[m.Line]})
		case me:
			send(api.Data, me, api.Msg{Acks: acks, Own: alone, Num: 1})
		default:
			send(fwd, was, api.Msg{For: me, Acks: acks})
		}
	}
}

// entered is what the directory knows behind the asking of me, from 1 on: how many are told off, and who owned it.
func entered(e *api.Entry, me int, write bool, tell func(n int)) (acks, was int) {
	was = e.Owner
	for n, shares := range e.Share {
		if shares && n != me-1 {
			acks++
			if write {
				tell(n)
			}
		}
	}
	switch {
	case write:
		e.Owner = me
		clear(e.Share)
		return acks, was
	case was == 0 && acks == 0:
		e.Owner, e.Share[me-1] = me, false
	case was != me:
		e.Share[me-1] = true
	}
	return 0, was
}

// toCore does what the document says of a message that comes to a core.
func toCore(p *api.Proto, m api.Msg) {
	n := m.To - 1
	st, v, w := &p.State[n][m.Line], &p.Val[n][m.Line], &p.Wait[n]
	mine := w.Line == m.Line+1
	owner := *st == api.Excl || *st == api.Mod || *st == api.Owned
	send := func(kind, to int, more api.Msg) {
		more.Kind, more.From, more.To, more.Line = kind, m.To, to, m.Line
		sent(more)(p)
	}
	counted := false
	switch {
	case m.Kind == api.Inv:
		if *st == api.Shared {
			*st = api.Invalid
		}
		send(api.Ack, m.For, api.Msg{})
	case m.Kind == api.FwdS && owner:
		*st = api.Owned
		send(api.Data, m.For, api.Msg{Acks: m.Acks, Val: *v})
	case m.Kind == api.FwdM && owner:
		*st = api.Invalid
		send(api.Data, m.For, api.Msg{Acks: m.Acks, Own: true, Val: *v})
	case m.Kind == api.Data && mine && !w.Back && !w.Came:
		w.Came, w.Need, w.Own, w.Keep, w.Val = true, m.Acks, m.Own, m.Num == 1, m.Val
		counted = true
	case m.Kind == api.Ack && mine && w.Write && w.Got < 255:
		w.Got++
		counted = true
	case m.Kind == api.PutAck && mine && w.Back:
		*st, *w = api.Invalid, api.Wait{}
	case m.Kind == api.Nack && mine && !w.Came && w.Back && owner:
		send(api.Put, 0, api.Msg{Val: *v})
	case m.Kind == api.Nack && mine && !w.Came && w.Back:
		*w = api.Wait{}
	case m.Kind == api.Nack && mine && !w.Came:
		kind := api.GetS
		if w.Write {
			kind = api.GetM
		}
		send(kind, 0, api.Msg{For: m.To})
	}
	if counted && w.Came && w.Got >= w.Need {
		arrived(st, v, *w)
		send(api.Free, 0, api.Msg{})
		*w = api.Wait{}
	}
}

// arrived is how a core has a line that it waited for so, once all came.
func arrived(st *int, v *uint32, w api.Wait) {
	*st = api.Shared
	if w.Own {
		*st = api.Excl
	}
	if w.Write {
		*st = api.Mod
	}
	if !w.Keep {
		*v = w.Val
	}
}

// lot gives numbers below n that look drawn, the same ones each time.
func lot(state uint64) func(n int) int {
	return func(n int) int {
		state = state*6364136223846793005 + 1442695040888963407
		return int(state>>33) % n
	}
}
