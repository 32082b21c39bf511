package proto_test

import (
	"bytes"
	"slices"
	"strconv"
	"testing"

	"backstay/api"
	"backstay/proto"
)

// run is a system from a new one on, and which word was set last of each line.
type run struct {
	p    api.Proto
	last []uint32
}

// begins is a run of so many cores and lines.
func begins(t *testing.T, cores, lines int) run {
	t.Helper()
	p, err := proto.New(cores, lines)
	if err != api.OK {
		t.Fatal(err)
	}
	return run{p, make([]uint32, lines)}
}

// does is the run behind d; false, if the system told an error, and so must be as it was.
func (r run) does(t *testing.T, d deed) (run, bool) {
	t.Helper()
	got := d.does(r.p)
	if got.err != api.OK {
		if !alike(got.p, r.p) {
			t.Fatalf("%+v: %d, but %+v became %+v", d, got.err, told(r.p), told(got.p))
		}
		return r, false
	}
	last := r.last
	if d.call == "Set" {
		last = slices.Clone(last)
		last[d.line] = d.w
	}
	return run{got.p, last}, true
}

// holds holds the run to P10.4: who has a line to write is the only one that has it; whoever has one has the word that was set last.
func (r run) holds(t *testing.T, behind any) {
	t.Helper()
	if !may(r.p) {
		t.Fatalf("behind %+v: it isn't right: %+v", behind, told(r.p))
	}
	for line := range r.p.Home {
		have, write := 0, 0
		for n := range r.p.Wait {
			if proto.Has(r.p, n, line, true) {
				write++
			}
			if !proto.Has(r.p, n, line, false) {
				continue
			}
			have++
			if w, err := proto.Get(r.p, n, line); w != r.last[line] || err != api.OK {
				t.Fatalf("behind %+v: core %d has %d of the line %d (%d), but %d was set last: %+v", behind, n, w, line, err, r.last[line], told(r.p))
			}
		}
		if write > 1 || write == 1 && have > 1 {
			t.Fatalf("behind %+v: %d have the line %d, %d to write: %+v", behind, have, line, write, told(r.p))
		}
	}
}

// came holds the run to what was asked for having come, behind a frame that ended a core's waiting.
func (r run) came(t *testing.T, was run) {
	t.Helper()
	for n, w := range was.p.Wait {
		if w.Line == 0 || r.p.Wait[n].Line > 0 {
			continue
		}
		line := w.Line - 1
		if w.Back && r.p.State[n][line] != api.Invalid || !w.Back && !proto.Has(r.p, n, line, w.Write) {
			t.Fatalf("core %d waited, %+v, and waits no more: %+v", n, w, told(r.p))
		}
	}
}

// calm answers whether nothing is under way, nobody waits, and no line is Busy.
func (r run) calm() bool {
	waiting := slices.ContainsFunc(r.p.Wait, func(w api.Wait) bool { return w != api.Wait{} })
	return len(r.p.Pool.Frames) == 0 && !waiting && slices.Max(r.p.Busy) == 0
}

// drains holds the run to P10.4: delivered one by one, the first one first, all that is asked for comes.
func (r run) drains(t *testing.T) run {
	t.Helper()
	for range 2000 {
		if len(r.p.Pool.Frames) == 0 {
			break
		}
		next, ok := r.does(t, deed{call: "Deliver"})
		if !ok {
			t.Fatalf("no room to deliver: %+v", told(r.p))
		}
		next.holds(t, "the first one that came")
		next.came(t, r)
		r = next
	}
	if !r.calm() {
		t.Fatalf("all came, but it isn't calm: %+v", told(r.p))
	}
	return r
}

// anyDeed is a deed, drawn, about what is there.
func anyDeed(draw func(int) int, p api.Proto, w uint32) deed {
	d := deed{n: draw(len(p.Wait)), line: draw(len(p.Home)), write: draw(2) == 0, w: w}
	d.call = []string{"Want", "Want", "Set", "Evict", "Deliver", "Deliver", "Deliver", "Deliver"}[draw(8)]
	d.k = draw(max(1, len(p.Pool.Frames)))
	return d
}

// P10.4: whatever is asked, set, given back and delivered in whatever order, drawn; and, every now and then, all is delivered, the first one first.
func TestDrawnOrders(t *testing.T) {
	for seed := range 120 {
		draw := lot(uint64(seed))
		r := begins(t, 1+seed%4, 1+draw(3))
		var behind []deed
		for i := range 250 {
			d := anyDeed(draw, r.p, uint32(i+1))
			next, _ := r.does(t, d)
			if behind = append(behind, d); len(behind) > 30 {
				behind = behind[1:]
			}
			next.holds(t, behind)
			next.came(t, r)
			r = next
			if draw(50) == 0 {
				r = r.drains(t)
			}
		}
		r.drains(t)
	}
}

// P10.4: of the most cores and lines, where all ask for all, of one line or of many, over and over.
func TestAllAskForAll(t *testing.T) {
	for seed := range 8 {
		draw := lot(uint64(seed))
		r := begins(t, 4, 16)
		for i := range 100 {
			for n := range 4 {
				line := draw(1 + 15*(seed%2))
				r, _ = r.does(t, deed{call: []string{"Want", "Want", "Want", "Evict"}[draw(4)], n: n, line: line, write: draw(2) == 0})
			}
			r = r.drains(t)
			for n := range 4 {
				r, _ = r.does(t, deed{call: "Set", n: n, line: draw(16), w: uint32(4*i + n)})
				r.holds(t, "a Set")
			}
		}
	}
}

// key tells two runs apart by all that the orders to come hang on; the order of what is under way isn't of it.
func (r run) key() string {
	var b []byte
	number := func(ns ...int) {
		for _, n := range ns {
			b = strconv.AppendInt(b, int64(n), 10)
			b = append(b, ' ')
		}
	}
	yes := func(y bool) {
		number(map[bool]int{true: 1}[y])
	}
	for n, w := range r.p.Wait {
		for line := range r.p.Home {
			number(r.p.State[n][line], int(r.p.Val[n][line]))
		}
		number(w.Line, w.Need, w.Got, int(w.Val))
		for _, y := range []bool{w.Write, w.Back, w.Came, w.Own, w.Keep} {
			yes(y)
		}
	}
	for line, e := range r.p.Dir {
		number(int(r.p.Home[line]), int(r.last[line]), r.p.Busy[line], e.Owner)
		for _, y := range e.Share {
			yes(y)
		}
	}
	for _, f := range r.p.Pool.Frames {
		b = append(b, f...)
	}
	return string(b)
}

// sorted is the run with its frames in an order that doesn't hang on the one in which they were sent.
func (r run) sorted() run {
	r.p.Pool.Frames = slices.SortedFunc(slices.Values(r.p.Pool.Frames), bytes.Compare)
	return r
}

// next are all deeds that may be done to the run: a Set writes one of three words, none of which is the last one.
func (r run) next() []deed {
	var l []deed
	for n := range r.p.Wait {
		for line := range r.p.Home {
			l = append(l, deed{call: "Want", n: n, line: line}, deed{call: "Want", n: n, line: line, write: true}, deed{call: "Evict", n: n, line: line}, deed{call: "Set", n: n, line: line, w: (r.last[line] + 1) % 3})
		}
	}
	for k := range r.p.Pool.Frames {
		l = append(l, deed{call: "Deliver", k: k})
	}
	return l
}

// P10.4: all orders there are of 1 and of 2 cores and one line, each of which drains; and as many of 3 cores and of two lines as there is time for.
func TestAllOrders(t *testing.T) {
	for _, c := range []struct {
		cores, lines, most, many int
		drain                    bool
	}{{1, 1, 1000, 93, true}, {2, 1, 1 << 20, 10929, true}, {3, 1, 20000, 20000, false}, {2, 2, 10000, 10000, false}} {
		if many := everywhere(t, begins(t, c.cores, c.lines), c.most, c.drain); many != c.many {
			t.Errorf("%d cores, %d lines: %d runs; want %d", c.cores, c.lines, many, c.many)
		}
	}
}

// everywhere holds all runs that begin so to P10.4, up to so many, and answers how many there are.
func everywhere(t *testing.T, first run, most int, drain bool) int {
	t.Helper()
	seen := map[string]bool{first.key(): true}
	work := []run{first}
	for len(work) > 0 {
		r := work[0]
		work = work[1:]
		for _, d := range r.next() {
			next, ok := r.does(t, d)
			if next = next.sorted(); !ok || seen[next.key()] || len(seen) == most {
				continue
			}
			seen[next.key()] = true
			next.holds(t, d)
			next.came(t, r)
			if drain {
				next.drains(t)
			}
			work = append(work, next)
		}
	}
	return len(seen)
}
