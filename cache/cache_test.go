package cache_test

import (
	"math"
	"slices"
	"testing"

	"backstay/api"
	"backstay/cache"
)

// end is how far Clock may go.
const end = 1 << 40

const top = math.MaxUint32

// far are numbers of neither sets, ways nor states, some of which a narrower integer would take for one.
var far = []int{-2, -8, -9, 16, 64, 255, 256, 257, 260, 65536 + 1, 1<<32 + 1, math.MaxInt32, math.MinInt32, math.MaxInt, math.MinInt, math.MinInt + 1}

// copied is a cache as c is, that shares no memory with it.
func copied(c api.Cache) api.Cache {
	sets := slices.Clone(c.Lines)
	for n, set := range sets {
		sets[n] = slices.Clone(set)
	}
	return api.Cache{Sets: c.Sets, Ways: c.Ways, Clock: c.Clock, Lines: sets}
}

// sameSets answers whether the sets of a and b are; a list is nil or empty alike.
func sameSets(a, b [][]api.Line) bool {
	return slices.EqualFunc(a, b, slices.Equal)
}

// alike answers whether a and b are.
func alike(a, b api.Cache) bool {
	return a.Sets == b.Sets && a.Ways == b.Ways && a.Clock == b.Clock && sameSets(a.Lines, b.Lines)
}

// turned is the cache c with something of it turned.
func turned(c api.Cache, by func(c *api.Cache)) api.Cache {
	c = copied(c)
	by(&c)
	return c
}

// empty is a cache of so many sets of so many lines, of which none is there.
func empty(sets, ways int) api.Cache {
	return api.Cache{Sets: sets, Ways: ways, Lines: make([][]api.Line, max(sets, 0))}
}

// filled is a cache, each of whose sets has so many lines. Those of one set were not used in the order in which they stand.
func filled(sets, ways, many int) api.Cache {
	c := empty(sets, ways)
	c.Clock = sets*many + 3
	for n := range sets {
		for i := range many {
			used := 1 + n + sets*((i+n+1)%many)
			c.Lines[n] = append(c.Lines[n], api.Line{Addr: n + sets*(many-i), State: 1 + (n+i)%4, Val: uint32(used) * 0x10203041, Used: used})
		}
	}
	return c
}

// deed is a call: which, and with what; New takes addr for sets and state for ways.
type deed struct {
	call        string
	addr, state int
	val         uint32
}

// done is what became of it.
type done struct {
	c   api.Cache
	l   api.Line
	is  bool
	all []api.Line
	err api.Errno
}

// does is what the program makes of d; Look and All leave the cache as it is.
func (d deed) does(c api.Cache) done {
	got := done{c: c}
	switch d.call {
	case "New":
		got.c, got.err = cache.New(d.addr, d.state)
	case "Look":
		got.l, got.is = cache.Look(c, d.addr)
	case "Use":
		got.c, got.err = cache.Use(c, d.addr)
	case "Put":
		got.c, got.l, got.err = cache.Put(c, d.addr, d.state, d.val)
	case "Drop":
		got.c, got.err = cache.Drop(c, d.addr)
	case "All":
		got.all = cache.All(c)
	}
	return got
}

// right answers whether the document takes c for right.
func right(c api.Cache) bool {
	if c.Sets < 1 || c.Sets > 8 || c.Ways < 1 || c.Ways > 8 || c.Clock < 0 || c.Clock > end || len(c.Lines) != c.Sets {
		return false
	}
	var seen []api.Line
	for n, set := range c.Lines {
		if len(set) > c.Ways {
			return false
		}
		for _, l := range set {
			if l.Addr < 0 || l.Addr%c.Sets != n || l.State < 1 || l.State > 4 || l.Used < 1 || l.Used > c.Clock {
				return false
			}
			for _, other := range seen {
				if other.Addr == l.Addr || other.Used == l.Used {
					return false
				}
			}
			seen = append(seen, l)
		}
	}
	return true
}

// mayNot answers whether d is ErrArg, with the cache c.
func (d deed) mayNot(c api.Cache) bool {
	uses, puts := d.call == "Use" || d.call == "Put", d.call == "Put"
	return !right(c) || d.addr < 0 || uses && c.Clock == end || puts && (d.state < 1 || d.state > 4)
}

// asks is what the document asks of d, told without the program.
func (d deed) asks(c api.Cache) done {
	as := done{c: c}
	if d.call == "All" {
		if right(c) {
			as.all = sorted(c)
		}
		return as
	}
	if d.mayNot(c) {
		if d.call != "Look" {
			as.err = api.ErrArg
		}
		return as
	}
	at := -1
	for i, l := range c.Lines[d.addr%c.Sets] {
		if l.Addr == d.addr {
			at = i
		}
	}
	if at < 0 {
		return d.asksAbsent(c)
	}
	return d.asksThere(copied(c), d.addr%c.Sets, at)
}

// asksThere is what the document asks of d, if its line stands at that place of that set of c, which is nobody else's.
func (d deed) asksThere(c api.Cache, set, at int) done {
	line := &c.Lines[set][at]
	switch d.call {
	case "Look":
		return done{c: c, l: *line, is: true}
	case "Drop":
		c.Lines[set] = append(c.Lines[set][:at], c.Lines[set][at+1:]...)
		return done{c: c}
	case "Put":
		line.State, line.Val = d.state, d.val
	}
	c.Clock++
	line.Used = c.Clock
	return done{c: c}
}

// asksAbsent is what the document asks of d, if its line isn't in c.
func (d deed) asksAbsent(c api.Cache) done {
	switch d.call {
	case "Look":
		return done{c: c}
	case "Use", "Drop":
		return done{c: c, err: api.ErrNone}
	}
	c = copied(c)
	c.Clock++
	set := c.Lines[d.addr%c.Sets]
	var gone api.Line
	if len(set) == c.Ways {
		least := 0
		for i, l := range set {
			if l.Used < set[least].Used {
				least = i
			}
		}
		gone = set[least]
		set = append(set[:least], set[least+1:]...)
	}
	c.Lines[d.addr%c.Sets] = append(set, api.Line{Addr: d.addr, State: d.state, Val: d.val, Used: c.Clock})
	return done{c: c, l: gone}
}

// sorted are all lines of c, by rising addresses.
func sorted(c api.Cache) []api.Line {
	var all []api.Line
	for _, set := range c.Lines {
		for _, l := range set {
			at := 0
			for at < len(all) && all[at].Addr < l.Addr {
				at++
			}
			all = slices.Insert(all, at, l)
		}
	}
	return all
}

// same answers whether a and b are.
func (a done) same(b done) bool {
	return alike(a.c, b.c) && a.l == b.l && a.is == b.is && slices.Equal(a.all, b.all) && a.err == b.err
}

// becomes holds the program to making want of d.
func becomes(t *testing.T, what string, c api.Cache, d deed, want done) {
	t.Helper()
	got := d.does(c)
	if !got.same(want) {
		t.Errorf("%s: %+v of %v\n= %+v\nwant %+v", what, d, c, got, want)
	}
}

// stays holds the program to leaving the cache as it is, with no line and that error.
func stays(t *testing.T, what string, c api.Cache, d deed, err api.Errno) {
	t.Helper()
	becomes(t, what, c, d, done{c: c, err: err})
}

// example is the chapter's: one set of two; Put 1, Put 2, Use 1.
func example() api.Cache {
	return api.Cache{Sets: 1, Ways: 2, Clock: 3, Lines: [][]api.Line{{
		{Addr: 1, State: api.Shared, Val: 10, Used: 3},
		{Addr: 2, State: api.Mod, Val: 20, Used: 2},
	}}}
}

// three are lines in three sets of two, one set full, one half full, one empty.
func three() api.Cache {
	return api.Cache{Sets: 3, Ways: 2, Clock: 7, Lines: [][]api.Line{
		{{Addr: 9, State: 4, Val: 5, Used: 7}, {Addr: 3, State: 1, Val: top, Used: 2}},
		{},
		{{Addr: 5, State: 2, Used: 4}},
	}}
}

// rights are caches that may be.
func rights() map[string]api.Cache {
	l := map[string]api.Cache{
		"the document's example": example(),
		"three sets":             three(),
		"Clock far on":           turned(three(), func(c *api.Cache) { c.Clock = 1 << 33 }),
		"Clock one ahead of its end, a line used then": turned(three(), func(c *api.Cache) { c.Clock, c.Lines[2][0].Used = end-1, end-1 }),
		"Clock at its end":                   turned(three(), func(c *api.Cache) { c.Clock = end }),
		"Clock at its end, a line used then": turned(three(), func(c *api.Cache) { c.Clock, c.Lines[0][0].Used = end, end }),
		"empty, Clock at its end":            turned(empty(2, 2), func(c *api.Cache) { c.Clock = end }),
		"empty, Clock one ahead of its end":  turned(empty(2, 2), func(c *api.Cache) { c.Clock = end - 1 }),
		"a line used at 1 alone":             {Sets: 1, Ways: 1, Clock: 1, Lines: [][]api.Line{{{State: 1, Used: 1}}}},
		"the greatest address":               {Sets: 4, Ways: 1, Clock: 9, Lines: [][]api.Line{{}, {}, {}, {{Addr: math.MaxInt, State: 3, Val: top, Used: 9}}}},
		"the greatest address, one set":      {Sets: 1, Ways: 2, Clock: 9, Lines: [][]api.Line{{{Addr: math.MaxInt, State: 3, Used: 9}, {Addr: math.MaxInt - 1, State: 3, Used: 1}}}},
	}
	for name, sets := range map[string]int{"one set": 1, "two sets": 2, "five sets": 5, "eight sets": 8} {
		for size, ways := range map[string]int{"one line": 1, "two lines": 2, "seven lines": 7, "eight lines": 8} {
			l[name+" of "+size+", empty"] = empty(sets, ways)
			l[name+" of "+size+", full"] = filled(sets, ways, ways)
			l[name+" of "+size+", one line short"] = filled(sets, ways, ways-1)
			l[name+" of "+size+", full, Clock where it must be"] = turned(filled(sets, ways, ways), func(c *api.Cache) { c.Clock -= 3 })
		}
	}
	return l
}

// wrongs are caches that may not be.
func wrongs() map[string]api.Cache {
	l := map[string]api.Cache{
		"nothing":           {},
		"no sets":           empty(0, 2),
		"no ways":           empty(2, 0),
		"no ways, one line": turned(filled(2, 1, 1), func(c *api.Cache) { c.Ways = 0 }),
		"nine sets":         empty(9, 2),
		"nine sets, full":   filled(9, 2, 2),
		"nine ways":         empty(2, 9),
		"nine ways, full":   filled(2, 9, 9),
		"-1 sets":           empty(-1, 2),
		"-1 ways":           empty(2, -1),
		"9 ways, few lines": filled(2, 9, 1),
		"256 + 1 sets":      filled(257, 1, 1),
	}
	for name, c := range map[string]api.Cache{"empty": empty(3, 2), "half full": three(), "full": filled(3, 2, 2), "one set of one": filled(1, 1, 1)} {
		for about, by := range wrongTurns() {
			l[name+": "+about] = turned(c, by)
		}
	}
	for _, ways := range []int{1, 2, 7, 8} {
		for about, by := range wrongLines() {
			for n := range 2 {
				for at := range ways {
					l[about+" in the set "+string(rune('0'+n))+", place "+string(rune('0'+at))+" of "+string(rune('0'+ways))] =
						turned(filled(2, ways, ways), func(c *api.Cache) { by(c, &c.Lines[n][at]) })
				}
			}
		}
	}
	l["a line too many"] = turned(filled(2, 3, 3), func(c *api.Cache) {
		c.Lines[1] = append(c.Lines[1], api.Line{Addr: 99, State: 1, Used: c.Clock})
	})
	l["a line too many in the first set, the other empty"] = turned(filled(2, 3, 3), func(c *api.Cache) {
		c.Lines[0], c.Lines[1] = append(c.Lines[0], api.Line{Addr: 98, State: 1, Used: c.Clock}), nil
	})
	l["one Used in two sets"] = turned(three(), func(c *api.Cache) { c.Lines[2][0].Used = c.Lines[0][1].Used })
	l["one Used in a set"] = turned(three(), func(c *api.Cache) { c.Lines[0][0].Used = c.Lines[0][1].Used })
	l["one Addr twice"] = turned(three(), func(c *api.Cache) { c.Lines[0][0].Addr = c.Lines[0][1].Addr })
	l["one line twice"] = turned(three(), func(c *api.Cache) { c.Lines[0][0] = c.Lines[0][1] })
	l["sets that changed places"] = turned(three(), func(c *api.Cache) { c.Lines[0], c.Lines[2] = c.Lines[2], c.Lines[0] })
	return l
}

// wrongTurns make a cache of at least one set wrong, by what isn't a line.
func wrongTurns() map[string]func(c *api.Cache) {
	return map[string]func(c *api.Cache){
		"Clock -1":              func(c *api.Cache) { c.Clock = -1 },
		"Clock behind 2^40":     func(c *api.Cache) { c.Clock = end + 1 },
		"Clock far behind":      func(c *api.Cache) { c.Clock = math.MaxInt },
		"Clock far below":       func(c *api.Cache) { c.Clock = math.MinInt },
		"no sets in Lines":      func(c *api.Cache) { c.Lines = nil },
		"an empty list of them": func(c *api.Cache) { c.Lines = [][]api.Line{} },
		"a set short":           func(c *api.Cache) { c.Lines = c.Lines[:len(c.Lines)-1] },
		"an empty set more":     func(c *api.Cache) { c.Lines = append(c.Lines, nil) },
		"a Sets more":           func(c *api.Cache) { c.Sets++ },
		"a Sets less":           func(c *api.Cache) { c.Sets-- },
		"no Sets":               func(c *api.Cache) { c.Sets = 0 },
		"Sets -1":               func(c *api.Cache) { c.Sets = -1 },
		"Sets below":            func(c *api.Cache) { c.Sets = math.MinInt },
		"no Ways":               func(c *api.Cache) { c.Ways = 0 },
		"Ways -1":               func(c *api.Cache) { c.Ways = -1 },
		"nine Ways":             func(c *api.Cache) { c.Ways = 9 },
		"the greatest Ways":     func(c *api.Cache) { c.Ways = math.MaxInt },
	}
}

// wrongLines make a line of a right cache of two sets a wrong one.
func wrongLines() map[string]func(c *api.Cache, l *api.Line) {
	return map[string]func(c *api.Cache, l *api.Line){
		"Addr -1":            func(c *api.Cache, l *api.Line) { l.Addr = -1 },
		"Addr -2":            func(c *api.Cache, l *api.Line) { l.Addr = -2 },
		"the least Addr":     func(c *api.Cache, l *api.Line) { l.Addr = math.MinInt },
		"the next Addr":      func(c *api.Cache, l *api.Line) { l.Addr++ },
		"the Addr ahead":     func(c *api.Cache, l *api.Line) { l.Addr-- },
		"State 0":            func(c *api.Cache, l *api.Line) { l.State = 0 },
		"State 5":            func(c *api.Cache, l *api.Line) { l.State = 5 },
		"State -1":           func(c *api.Cache, l *api.Line) { l.State = -1 },
		"State 257":          func(c *api.Cache, l *api.Line) { l.State = 257 },
		"Used 0":             func(c *api.Cache, l *api.Line) { l.Used = 0 },
		"Used -1":            func(c *api.Cache, l *api.Line) { l.Used = -1 },
		"Used behind Clock":  func(c *api.Cache, l *api.Line) { l.Used = c.Clock + 1 },
		"the greatest Used":  func(c *api.Cache, l *api.Line) { l.Used = math.MaxInt },
		"a Used that is far": func(c *api.Cache, l *api.Line) { l.Used += 1 << 32 },
	}
}

// some are caches that may be, and such as may not.
func some() map[string]api.Cache {
	l := rights()
	for name, c := range wrongs() {
		l[name] = c
	}
	return l
}

// addrs are those of the lines of c, such as would be in each set, and edges.
func addrs(c api.Cache) []int {
	l := []int{-1, math.MinInt, 0, 1, 2, 3, 99, math.MaxInt, math.MaxInt - 1}
	for n := range min(len(c.Lines), 9) {
		l = append(l, 1000*max(c.Sets, 1)+n)
		for _, line := range c.Lines[n] {
			l = append(l, line.Addr)
		}
	}
	slices.Sort(l)
	return slices.Compact(l)
}

// deeds are some of each call that takes a cache, at edges, wrong ones among them.
func deeds(c api.Cache) []deed {
	l := []deed{{call: "All"}}
	for _, addr := range addrs(c) {
		for _, call := range []string{"Look", "Use", "Drop"} {
			l = append(l, deed{call: call, addr: addr})
		}
		for state := -1; state <= 6; state++ {
			l = append(l, deed{call: "Put", addr: addr, state: state, val: top - uint32(state)})
		}
	}
	return l
}

// P8.1: Right, of caches that may be, and of such as may not, in each way that the chapter names.
func TestRight(t *testing.T) {
	for name, c := range rights() {
		if !right(c) || !cache.Right(c) {
			t.Errorf("%s: not right", name)
		}
	}
	for name, c := range wrongs() {
		if right(c) || cache.Right(c) {
			t.Errorf("%s: right", name)
		}
	}
}

// P8.1: Right, of each number of sets and ways, with fewer sets than Sets, as many and more.
func TestRightSizes(t *testing.T) {
	for _, sets := range append([]int{-1, 0, 1, 2, 3, 4, 5, 6, 7, 8, 9, 10}, far...) {
		for _, ways := range append([]int{-1, 0, 1, 2, 3, 4, 5, 6, 7, 8, 9, 10}, far...) {
			for there := range 12 {
				c := api.Cache{Sets: sets, Ways: ways, Lines: make([][]api.Line, there)}
				want := 1 <= sets && sets <= 8 && 1 <= ways && ways <= 8 && there == sets
				if got := cache.Right(c); got != want {
					t.Errorf("%d sets of %d ways, %d of them there: Right is %t", sets, ways, there, got)
				}
			}
		}
	}
}

// P8.1: Right, of as many lines in a set as it may have, fewer and more, in each of the sets.
func TestRightLines(t *testing.T) {
	for ways := 1; ways <= 8; ways++ {
		for n := range 3 {
			for many := range 12 {
				c := empty(3, ways)
				c.Clock = 20
				for i := range many {
					c.Lines[n] = append(c.Lines[n], api.Line{Addr: n + 3*i, State: 2, Used: 20 - i})
				}
				if got := cache.Right(c); got != (many <= ways) {
					t.Errorf("%d lines in the set %d of %d ways: Right is %t", many, n, ways, got)
				}
			}
		}
	}
}

// P8.1: Right, at each edge of Clock, State and Used.
func TestRightEdges(t *testing.T) {
	for clock, want := range map[int]bool{-1: false, 0: true, 1: true, end - 1: true, end: true, end + 1: false, 2 * end: false, 1<<32 - 1: true, -end: false} {
		c := turned(empty(2, 3), func(c *api.Cache) { c.Clock = clock })
		if got := cache.Right(c); got != want {
			t.Errorf("Clock %d: Right is %t", clock, got)
		}
	}
	for _, clock := range []int{1, 2, 77, end - 1, end} {
		for used, want := range map[int]bool{-1: false, 0: false, 1: true, clock: true, clock + 1: false, math.MaxInt: false, math.MinInt: false} {
			c := api.Cache{Sets: 1, Ways: 1, Clock: clock, Lines: [][]api.Line{{{Addr: 4, State: 1, Used: used}}}}
			if got := cache.Right(c); got != want {
				t.Errorf("Clock %d, Used %d: Right is %t", clock, used, got)
			}
		}
	}
	for _, state := range append([]int{-1, 0, 1, 2, 3, 4, 5, 6}, far...) {
		c := api.Cache{Sets: 1, Ways: 1, Clock: 1, Lines: [][]api.Line{{{State: state, Used: 1}}}}
		if got := cache.Right(c); got != (1 <= state && state <= 4) {
			t.Errorf("State %d: Right is %t", state, got)
		}
	}
}

// P8.1: Right, of each address in each set of each number of sets.
func TestRightAddrs(t *testing.T) {
	for sets := 1; sets <= 8; sets++ {
		for n := range sets {
			for _, addr := range []int{0, 1, 2, 3, 5, 7, 8, 9, 55, 56, 1 << 32, math.MaxInt - 1, math.MaxInt, -1, -2, -8, math.MinInt} {
				c := turned(empty(sets, 1), func(c *api.Cache) {
					c.Clock, c.Lines[n] = 1, []api.Line{{Addr: addr, State: 1, Used: 1}}
				})
				want := addr >= 0 && uint64(addr)%uint64(sets) == uint64(n)
				if got := cache.Right(c); got != want {
					t.Errorf("%d in the set %d of %d: Right is %t", addr, n, sets, got)
				}
			}
		}
	}
}

// P8.1: Right, any two lines of all with one Used, and any two of a set with one Addr.
func TestRightNoTwo(t *testing.T) {
	c := filled(3, 4, 4)
	for one := range 12 {
		for two := range 12 {
			used := turned(c, func(c *api.Cache) { c.Lines[one/4][one%4].Used = c.Lines[two/4][two%4].Used })
			addr := turned(c, func(c *api.Cache) { c.Lines[one/4][one%4].Addr = c.Lines[two/4][two%4].Addr })
			if got := cache.Right(used); got != (one == two) {
				t.Errorf("%v: Right is %t", used, got)
			}
			if got := cache.Right(addr); got != (one == two) {
				t.Errorf("%v: Right is %t", addr, got)
			}
		}
	}
}

// P8.1: New, of each number of sets and ways: empty, and right; none, and ErrArg, of others.
func TestNew(t *testing.T) {
	for _, sets := range append([]int{-1, 0, 1, 2, 3, 4, 5, 6, 7, 8, 9, 10}, far...) {
		for _, ways := range append([]int{-1, 0, 1, 2, 3, 4, 5, 6, 7, 8, 9, 10}, far...) {
			d := deed{call: "New", addr: sets, state: ways}
			if sets < 1 || sets > 8 || ways < 1 || ways > 8 {
				becomes(t, "wrong", api.Cache{}, d, done{err: api.ErrArg})
				continue
			}
			becomes(t, "new", api.Cache{}, d, done{c: empty(sets, ways)})
			if got, _ := cache.New(sets, ways); !cache.Right(got) || len(cache.All(got)) != 0 {
				t.Errorf("New(%d, %d) isn't right, or not empty: %v", sets, ways, got)
			}
		}
	}
}

// P8.2: the chapter's example: one set of two: Put 1, Put 2, Use 1, Put 3: 2 goes.
func TestExample(t *testing.T) {
	c, err := cache.New(1, 2)
	if err != api.OK {
		t.Fatal(err)
	}
	c, gone, err := cache.Put(c, 1, api.Shared, 10)
	if gone != (api.Line{}) || err != api.OK {
		t.Fatal(gone, err)
	}
	c, gone, err = cache.Put(c, 2, api.Mod, 20)
	if gone != (api.Line{}) || err != api.OK {
		t.Fatal(gone, err)
	}
	if c, err = cache.Use(c, 1); err != api.OK || !alike(c, example()) {
		t.Fatal(c, err)
	}
	c, gone, err = cache.Put(c, 3, api.Excl, 30)
	if gone != (api.Line{Addr: 2, State: api.Mod, Val: 20, Used: 2}) || err != api.OK {
		t.Error(gone, err)
	}
	want := api.Cache{Sets: 1, Ways: 2, Clock: 4, Lines: [][]api.Line{{
		{Addr: 1, State: api.Shared, Val: 10, Used: 3},
		{Addr: 3, State: api.Excl, Val: 30, Used: 4},
	}}}
	if !alike(c, want) {
		t.Errorf("%v; want %v", c, want)
	}
	if l, is := cache.Look(c, 2); is || l != (api.Line{}) {
		t.Error("2 is there yet")
	}
}

// P8.1: Look, Use, Drop and All, by hand, in three sets.
func TestByHand(t *testing.T) {
	c := three()
	nine, five, last := c.Lines[0][0], c.Lines[2][0], c.Lines[0][1]
	becomes(t, "look", c, deed{call: "Look", addr: 9}, done{c: c, l: nine, is: true})
	becomes(t, "look", c, deed{call: "Look", addr: 3}, done{c: c, l: last, is: true})
	becomes(t, "look", c, deed{call: "Look", addr: 5}, done{c: c, l: five, is: true})
	for _, addr := range []int{0, 1, 2, 4, 6, 8, 12, 3 + 1<<32, math.MaxInt} {
		becomes(t, "look", c, deed{call: "Look", addr: addr}, done{c: c})
		stays(t, "use", c, deed{call: "Use", addr: addr}, api.ErrNone)
		stays(t, "drop", c, deed{call: "Drop", addr: addr}, api.ErrNone)
	}
	becomes(t, "all", c, deed{call: "All"}, done{c: c, all: []api.Line{last, five, nine}})
	becomes(t, "use", c, deed{call: "Use", addr: 3}, done{c: turned(c, func(c *api.Cache) { c.Clock, c.Lines[0][1].Used = 8, 8 })})
	becomes(t, "use what was used last", c, deed{call: "Use", addr: 9}, done{c: turned(c, func(c *api.Cache) { c.Clock, c.Lines[0][0].Used = 8, 8 })})
	becomes(t, "drop", c, deed{call: "Drop", addr: 9}, done{c: turned(c, func(c *api.Cache) { c.Lines[0] = c.Lines[0][1:] })})
	becomes(t, "drop", c, deed{call: "Drop", addr: 3}, done{c: turned(c, func(c *api.Cache) { c.Lines[0] = c.Lines[0][:1] })})
	becomes(t, "drop the only one", c, deed{call: "Drop", addr: 5}, done{c: turned(c, func(c *api.Cache) { c.Lines[2] = nil })})
}

// P8.2: Put, by hand, in three sets: what isn't there is the last of its set, what is there stays in its place, and of a full set the one of the least Used goes.
func TestPutByHand(t *testing.T) {
	c := three()
	put := func(addr int) deed { return deed{call: "Put", addr: addr, state: 3, val: 77} }
	line := func(addr int) api.Line { return api.Line{Addr: addr, State: 3, Val: 77, Used: 8} }
	with := func(n int, set ...api.Line) api.Cache {
		return turned(c, func(c *api.Cache) { c.Clock, c.Lines[n] = 8, set })
	}
	becomes(t, "into an empty set", c, put(1), done{c: with(1, line(1))})
	becomes(t, "behind another", c, put(2), done{c: with(2, c.Lines[2][0], line(2))})
	becomes(t, "the only one again", c, put(5), done{c: with(2, line(5))})
	becomes(t, "the first one again", c, put(9), done{c: with(0, line(9), c.Lines[0][1])})
	becomes(t, "the last one again", c, put(3), done{c: with(0, c.Lines[0][0], line(3))})
	becomes(t, "into a full set", c, put(6), done{c: with(0, c.Lines[0][0], line(6)), l: c.Lines[0][1]})
	becomes(t, "into a full set, 0", c, put(0), done{c: with(0, c.Lines[0][0], line(0)), l: c.Lines[0][1]})
	becomes(t, "the greatest address", c, put(math.MaxInt), done{c: with(1, line(math.MaxInt))})
	becomes(t, "noughts again", turned(c, func(c *api.Cache) { c.Lines[2][0].Val = 9 }), deed{call: "Put", addr: 5, state: 1},
		done{c: with(2, api.Line{Addr: 5, State: 1, Used: 8})})
}

// P8.2: Put into a full set of each size: the one of the least Used goes, wherever in the set it stands, whatever its address, and though lines of other sets were used ahead of it.
func TestPutFull(t *testing.T) {
	for sets := 1; sets <= 8; sets++ {
		for ways := 1; ways <= 8; ways++ {
			for least := range ways {
				for n := range sets {
					putFull(t, filled(sets, ways, ways), n, least, 1)
					putFull(t, filled(sets, ways, ways), n, least, -1)
				}
			}
		}
	}
}

// putFull puts into the set n of c, which is full, the line at the place least having been used first, and each one that way from it later.
func putFull(t *testing.T, c api.Cache, n, least, way int) {
	t.Helper()
	ways := c.Ways
	for i := range ways {
		c.Lines[n][i].Used = 1000 + 9*((way*(i-least)+ways)%ways)
	}
	c.Clock = 2000
	addr := n + c.Sets*77
	rest := slices.Delete(slices.Clone(c.Lines[n]), least, least+1)
	want := turned(c, func(c *api.Cache) {
		c.Clock, c.Lines[n] = 2001, append(rest, api.Line{Addr: addr, State: 4, Val: 5, Used: 2001})
	})
	becomes(t, "full", c, deed{call: "Put", addr: addr, state: 4, val: 5}, done{c: want, l: c.Lines[n][least]})
}

// P8.2: Put of what is there, in a full set too: nothing goes, it stays in its place and has this State and Val.
func TestPutAgain(t *testing.T) {
	for ways := 1; ways <= 8; ways++ {
		for many := 1; many <= ways; many++ {
			c := filled(3, ways, many)
			for at, l := range c.Lines[1] {
				for state := 1; state <= 4; state++ {
					for _, val := range []uint32{0, 1, l.Val, top} {
						want := turned(c, func(c *api.Cache) {
							c.Clock++
							c.Lines[1][at] = api.Line{Addr: l.Addr, State: state, Val: val, Used: c.Clock}
						})
						becomes(t, "again", c, deed{call: "Put", addr: l.Addr, state: state, val: val}, done{c: want})
					}
				}
			}
		}
	}
}

// P8.2: Put takes the states from 1 to 4, and no others.
func TestPutState(t *testing.T) {
	for _, state := range append([]int{-1, 0, 1, 2, 3, 4, 5, 6}, far...) {
		for _, addr := range []int{9, 6, 1, 5} {
			d := deed{call: "Put", addr: addr, state: state, val: 6}
			if state < 1 || state > 4 {
				stays(t, "no state", three(), d, api.ErrArg)
				continue
			}
			got := d.does(three())
			if l, is := cache.Look(got.c, addr); got.err != api.OK || !is || l != (api.Line{Addr: addr, State: state, Val: 6, Used: 8}) {
				t.Errorf("%+v: %v, %v, %d", d, l, is, got.err)
			}
		}
	}
}

// P8.1 and P8.2: Clock at 2^40: Use and Put are ErrArg, the other calls go on; at one less, they use what they may for the last time.
func TestClockEdges(t *testing.T) {
	for _, clock := range []int{end, end + 1, -1} {
		c := turned(three(), func(c *api.Cache) { c.Clock = clock })
		for _, addr := range []int{9, 3, 5, 6, 1} {
			stays(t, "use", c, deed{call: "Use", addr: addr}, api.ErrArg)
			stays(t, "put", c, deed{call: "Put", addr: addr, state: 1}, api.ErrArg)
		}
	}
	c := turned(three(), func(c *api.Cache) { c.Clock = end })
	becomes(t, "look", c, deed{call: "Look", addr: 9}, done{c: c, l: c.Lines[0][0], is: true})
	becomes(t, "all", c, deed{call: "All"}, done{c: c, all: sorted(c)})
	becomes(t, "drop", c, deed{call: "Drop", addr: 5}, done{c: turned(c, func(c *api.Cache) { c.Lines[2] = nil })})
	stays(t, "drop", c, deed{call: "Drop", addr: 2}, api.ErrNone)

	c.Clock = end - 1
	becomes(t, "use", c, deed{call: "Use", addr: 5}, done{c: turned(c, func(c *api.Cache) { c.Clock, c.Lines[2][0].Used = end, end })})
	becomes(t, "put", c, deed{call: "Put", addr: 4, state: 2}, done{c: turned(c, func(c *api.Cache) {
		c.Clock, c.Lines[1] = end, []api.Line{{Addr: 4, State: 2, Used: end}}
	})})
	for _, d := range []deed{{call: "Use", addr: 5}, {call: "Put", addr: 4, state: 2}} {
		if got := d.does(c); !cache.Right(got.c) {
			t.Errorf("%+v: not right: %v", d, got.c)
		}
	}
	stays(t, "use of what isn't there", c, deed{call: "Use", addr: 2}, api.ErrNone)
}

// P8.1 and P8.2: each call with a cache that isn't right: ErrArg, and the cache as it is; Look has no line, All none.
func TestWrongCaches(t *testing.T) {
	for name, c := range wrongs() {
		becomes(t, name, c, deed{call: "All"}, done{c: c})
		for _, addr := range addrs(c) {
			becomes(t, name, c, deed{call: "Look", addr: addr}, done{c: c})
			stays(t, name, c, deed{call: "Use", addr: addr}, api.ErrArg)
			stays(t, name, c, deed{call: "Drop", addr: addr}, api.ErrArg)
			stays(t, name, c, deed{call: "Put", addr: addr, state: 1, val: 3}, api.ErrArg)
		}
	}
}

// P8.1 and P8.2: an address below 0: ErrArg, also where its rest is a set's; Look has no line.
func TestWrongAddrs(t *testing.T) {
	for name, c := range rights() {
		for _, addr := range []int{-1, -2, -3, -9, -256, -1 << 32, math.MinInt + 1, math.MinInt} {
			becomes(t, name, c, deed{call: "Look", addr: addr}, done{c: c})
			stays(t, name, c, deed{call: "Use", addr: addr}, api.ErrArg)
			stays(t, name, c, deed{call: "Drop", addr: addr}, api.ErrArg)
			stays(t, name, c, deed{call: "Put", addr: addr, state: 1, val: 3}, api.ErrArg)
		}
	}
}

// P8.1 and P8.2: ErrArg comes ahead of ErrNone.
func TestFirstError(t *testing.T) {
	late := turned(three(), func(c *api.Cache) { c.Clock = end })
	wrong := turned(three(), func(c *api.Cache) { c.Lines[2][0].Used = 0 })
	for _, c := range []struct {
		name string
		c    api.Cache
		d    deed
		want api.Errno
	}{
		{"use, late, not there", late, deed{call: "Use", addr: 1}, api.ErrArg},
		{"use, late, there", late, deed{call: "Use", addr: 9}, api.ErrArg},
		{"use, late, below 0", late, deed{call: "Use", addr: -1}, api.ErrArg},
		{"use, not right, not there", wrong, deed{call: "Use", addr: 1}, api.ErrArg},
		{"use, below 0", three(), deed{call: "Use", addr: -3}, api.ErrArg},
		{"use, not there", three(), deed{call: "Use", addr: 1}, api.ErrNone},
		{"drop, not right, not there", wrong, deed{call: "Drop", addr: 1}, api.ErrArg},
		{"drop, below 0", three(), deed{call: "Drop", addr: -3}, api.ErrArg},
		{"drop, late, not there", late, deed{call: "Drop", addr: 1}, api.ErrNone},
		{"put, late, no state", late, deed{call: "Put", addr: 9, state: 5}, api.ErrArg},
		{"put, not right, no state", wrong, deed{call: "Put", addr: 9}, api.ErrArg},
		{"put, below 0, no state", three(), deed{call: "Put", addr: -1}, api.ErrArg},
		{"put, not there, no state", three(), deed{call: "Put", addr: 1}, api.ErrArg},
		{"put into a full set, no state", three(), deed{call: "Put", addr: 6, state: 5}, api.ErrArg},
	} {
		stays(t, c.name, c.c, c.d, c.want)
	}
}

// P8.1 and P8.2: each call, at all edges at once, is what the document asks.
func TestAllCalls(t *testing.T) {
	for name, c := range some() {
		for _, d := range deeds(c) {
			becomes(t, name, c, d, d.asks(c))
		}
	}
}

// lot gives numbers below n that look drawn, the same ones each time.
func lot(state uint64) func(n int) int {
	return func(n int) int {
		state = state*6364136223846793005 + 1442695040888963407
		return int(state>>33) % n
	}
}

// drawn is a deed that is now and then a wrong one.
func drawn(draw func(n int) int, c api.Cache) deed {
	calls := []string{"Look", "Use", "Use", "Put", "Put", "Put", "Put", "Drop", "All"}
	room := 2 * c.Sets * c.Ways
	d := deed{call: calls[draw(len(calls))], addr: draw(room), state: 1 + draw(4), val: uint32(draw(math.MaxInt32)) * 3}
	switch draw(30) {
	case 0:
		d.state = draw(3)*5 - 5
	case 1:
		d.addr = -1 - draw(room)
	case 2:
		d.addr = math.MaxInt - draw(room)
	}
	return d
}

// holds is what a cache must have: what was put last of each address, but for when it was used.
type holds map[int]api.Line

// follows keeps up with what d did.
func (h holds) follows(d deed, got done) {
	if got.err != api.OK {
		return
	}
	switch d.call {
	case "Put":
		if got.l != (api.Line{}) {
			delete(h, got.l.Addr)
		}
		h[d.addr] = api.Line{Addr: d.addr, State: d.state, Val: d.val}
	case "Drop":
		delete(h, d.addr)
	}
}

// has answers whether c has all of h, each found by Look, and no more.
func (h holds) has(c api.Cache) bool {
	for addr, want := range h {
		got, is := cache.Look(c, addr)
		got.Used = 0
		if !is || got != want {
			return false
		}
	}
	return len(cache.All(c)) == len(h)
}

// P8.3: whatever is called one behind another, a cache is what the document asks, stays right, and has what was put last of each address that wasn't pushed out nor dropped since.
func TestDrawnCalls(t *testing.T) {
	for seed := range 150 {
		draw := lot(uint64(seed))
		c, err := cache.New(1+draw(8), 1+draw(8))
		if err != api.OK {
			t.Fatal(err)
		}
		if seed%5 == 0 {
			c.Clock = end - 60
		}
		h := holds{}
		for range 250 {
			d := drawn(draw, c)
			got, want := d.does(c), d.asks(c)
			if !got.same(want) {
				t.Fatalf("seed %d: %+v of %v\n= %+v\nwant %+v", seed, d, c, got, want)
			}
			h.follows(d, got)
			c = got.c
			if !cache.Right(c) {
				t.Fatalf("seed %d: behind %+v the cache isn't right: %v", seed, d, c)
			}
			if !h.has(c) {
				t.Fatalf("seed %d: behind %+v there is %v; want %v", seed, d, c, h)
			}
		}
	}
}

// roomy is the cache c, with spare room behind each set and behind the list of sets; all is all of that.
func roomy(c api.Cache) (given api.Cache, all [][]api.Line) {
	spare := api.Line{Addr: 7, State: 7, Val: 7, Used: 7}
	for _, set := range c.Lines {
		all = append(all, append(slices.Clone(set), spare, spare, spare)[:len(set)])
	}
	for range 3 {
		all = append(all, []api.Line{spare})
	}
	given = c
	given.Lines = all[:len(c.Lines)]
	return given, all
}

// opened are the lines of l, and those of each set's spare room.
func opened(l [][]api.Line) [][]api.Line {
	c := slices.Clone(l)
	for i, set := range c {
		c[i] = slices.Clone(set[:cap(set)])
	}
	return c
}

// few are caches for the tests that write all over: one of each kind.
func few() map[string]api.Cache {
	return map[string]api.Cache{
		"the document's example":          example(),
		"three sets":                      three(),
		"empty":                           empty(3, 2),
		"full":                            filled(5, 8, 8),
		"one line short":                  filled(2, 8, 7),
		"one set of one":                  filled(1, 1, 1),
		"late":                            turned(three(), func(c *api.Cache) { c.Clock = end }),
		"nothing":                         {},
		"a wrong line":                    turned(three(), func(c *api.Cache) { c.Lines[0][1].State = 0 }),
		"a set more":                      turned(three(), func(c *api.Cache) { c.Lines = append(c.Lines, nil) }),
		"a line more":                     turned(filled(2, 8, 8), func(c *api.Cache) { c.Ways = 7 }),
		"more sets and lines than may be": filled(9, 9, 9),
	}
}

// Rule 3: no call changes what it is given, nor what lies in the spare room, nor lets that be seen.
func TestLeavesWhatItIsGiven(t *testing.T) {
	for name, c := range few() {
		given, all := roomy(c)
		lists := opened(all)
		if cache.Right(given) != right(c) {
			t.Fatalf("%s: Right hangs on the spare room", name)
		}
		for _, d := range deeds(c) {
			becomes(t, name, given, d, d.asks(c))
			if !sameSets(opened(all), lists) || !alike(given, c) || !sameSets(given.Lines[:cap(given.Lines)], all[:cap(given.Lines)]) {
				t.Fatalf("%s: %+v changed what it was given to %v", name, d, all)
			}
		}
	}
}

// writeOver fills all sets of c and their spare room, and empties the list of them.
func writeOver(c api.Cache) {
	sets := c.Lines[:cap(c.Lines)]
	for i, set := range sets {
		writeLines(set)
		sets[i] = nil
	}
}

// writeLines fills l and its spare room.
func writeLines(l []api.Line) {
	l = l[:cap(l)]
	for i := range l {
		l[i] = api.Line{Addr: 66, State: 66, Val: 66, Used: 66}
	}
}

// isNew holds the answer of d to sharing no memory with c, nor with the answer of the same call made again.
func isNew(t *testing.T, what string, c api.Cache, d deed) {
	t.Helper()
	given, want := copied(c), d.asks(c)
	first, second := d.does(given), d.does(given)
	if writeLines(first.all); !alike(given, c) || !slices.Equal(second.all, want.all) {
		t.Fatalf("%s: the lines of %+v were written over, and what was given is %v", what, d, given)
	}
	if d.call == "All" || d.call == "Look" {
		return
	}
	if writeOver(first.c); !alike(given, c) {
		t.Fatalf("%s: the answer of %+v was written over, and what was given is %v", what, d, given)
	}
	if writeOver(given); !alike(second.c, want.c) {
		t.Fatalf("%s: what was given was written over, and the second answer of %+v became %v", what, d, second.c)
	}
}

// Rules 3 and 4: each answer is new memory: what is written over it is seen neither in what was given nor in another answer, beside an error neither.
func TestAnswersAreNew(t *testing.T) {
	for name, c := range few() {
		for _, d := range deeds(c) {
			isNew(t, name, c, d)
		}
	}
	one, _ := cache.New(3, 2)
	for n := range one.Lines {
		one.Lines[n] = append(one.Lines[n], api.Line{Addr: n, State: 1, Used: 1})
	}
	writeOver(one)
	if two, _ := cache.New(3, 2); !alike(two, empty(3, 2)) {
		t.Errorf("an answer of New was written over, and the next one is %v", two)
	}
}

// apart holds the sets of c to sharing no memory, their spare room neither.
func apart(t *testing.T, what string, c api.Cache) {
	t.Helper()
	for n := range c.Lines {
		want := copied(c).Lines
		for at := range c.Lines[n] {
			c.Lines[n][at].Val++
			want[n][at].Val++
		}
		_ = append(c.Lines[n], api.Line{Addr: 66}, api.Line{Addr: 66})
		if !sameSets(c.Lines, want) {
			t.Fatalf("%s: the set %d was written over, and the sets are %v; want %v", what, n, c.Lines, want)
		}
	}
}

// Rule 3: no two sets of an answer share memory, not even where those that were given did.
func TestSetsAreApart(t *testing.T) {
	row := []api.Line{{Addr: 0, State: 1, Used: 1}, {Addr: 3, State: 2, Used: 2}, {Addr: 1, State: 3, Used: 3}, {Addr: 2, State: 4, Used: 4}}
	set := []api.Line{{Addr: 1, State: 1, Used: 1}}
	shared := map[string]api.Cache{
		"sets of one row, each one's spare room the next": {Sets: 3, Ways: 2, Clock: 4, Lines: [][]api.Line{row[:2], row[2:3], row[3:4]}},
		"sets of one row, one of them empty":              {Sets: 3, Ways: 2, Clock: 4, Lines: [][]api.Line{row[:0], row[2:3], row[3:4]}},
		"empty sets of one row":                           {Sets: 3, Ways: 1, Lines: [][]api.Line{row[:0], row[:0], row[:0]}},
		"one set twice, which is wrong":                   {Sets: 2, Ways: 2, Clock: 1, Lines: [][]api.Line{set, set}},
		"none of them shared":                             three(),
	}
	for name, c := range shared {
		before := copied(c)
		for _, d := range deeds(c) {
			becomes(t, name, c, d, d.asks(before))
			if d.call != "Look" && d.call != "All" {
				apart(t, name, d.does(c).c)
			}
			if !alike(c, before) {
				t.Fatalf("%s: %+v changed what it was given to %v", name, d, c)
			}
		}
	}
	c, _ := cache.New(8, 8)
	apart(t, "New", c)
	c, _ = cache.New(2, 1)
	apart(t, "New", c)
}
