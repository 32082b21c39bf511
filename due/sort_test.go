package due_test

import (
	"math"
	"slices"
	"testing"

	"backstay/api"
	"backstay/due"
)

// many is how often the list has each.
func many(l []api.Due) map[api.Due]int {
	n := make(map[api.Due]int)
	for _, d := range l {
		n[d]++
	}
	return n
}

// sorts holds the program to what P15.2 says of any list: of at most 200 what it had, in order, those alike one behind the other; a longer one as it is.
func sorts(t *testing.T, what string, l []api.Due) {
	t.Helper()
	got := due.Sort(l)
	if len(l) > 200 {
		if !slices.Equal(got, l) {
			t.Errorf("%s: %d of them are not as they were: %v of %v", what, len(l), got, l)
		}
		return
	}
	had, has := many(l), many(got)
	for d, n := range had {
		if has[d] != n {
			t.Errorf("%s: %v comes %d times of %v: %v", what, d, n, l, got)
		}
	}
	if len(got) != len(l) {
		t.Errorf("%s: %d of %d: %v of %v", what, len(got), len(l), got, l)
	}
	for n := 1; n < len(got); n++ {
		if ahead(got[n], got[n-1]) {
			t.Errorf("%s: %v stands behind %v: %v of %v", what, got[n], got[n-1], got, l)
		}
	}
}

// P15.2: Sort of lists that rise, fall, and are mixed, with alike ones; by hand.
func TestSort(t *testing.T) {
	for about, c := range map[string]struct{ l, want []api.Due }{
		"nothing":                            {nil, nil},
		"an empty list":                      {[]api.Due{}, nil},
		"one":                                {of(4, 3), of(4, 3)},
		"rising":                             {of(1, 9, 2, 8, 3, 7), of(1, 9, 2, 8, 3, 7)},
		"falling":                            {of(3, 7, 2, 8, 1, 9), of(1, 9, 2, 8, 3, 7)},
		"mixed":                              {of(2, 8, 3, 7, 1, 9), of(1, 9, 2, 8, 3, 7)},
		"of one When":                        {of(4, 3, 4, 1, 4, 2), of(4, 1, 4, 2, 4, 3)},
		"of one Which":                       {of(3, 4, 1, 4, 2, 4), of(1, 4, 2, 4, 3, 4)},
		"of one When, ahead and behind":      {of(4, 3, 5, 0, 4, 1, 3, 9, 4, 2), of(3, 9, 4, 1, 4, 2, 4, 3, 5, 0)},
		"two alike":                          {of(4, 3, 4, 3), of(4, 3, 4, 3)},
		"alike ones apart":                   {of(4, 3, 2, 1, 4, 3, 9, 9, 2, 1, 4, 3), of(2, 1, 2, 1, 4, 3, 4, 3, 4, 3, 9, 9)},
		"alike ones, one between by Which":   {of(4, 3, 4, 2, 4, 3, 4, 2, 4, 4), of(4, 2, 4, 2, 4, 3, 4, 3, 4, 4)},
		"the document's example":             {of(10, 5, 8, 6), of(8, 6, 10, 5)},
		"the other way round":                {turned(usual(), slices.Reverse), usual()},
		"the edges":                          {of(end, end, 0, 0, end, 0, 0, end), of(0, 0, 0, end, end, 0, end, end)},
		"such as may not be due":             {of(5, -1, -1, 5, end+1, 0, -1, -2, 0, end+1), of(-1, -2, -1, 5, 0, end+1, 5, -1, end+1, 0)},
		"as far apart as numbers are":        {of(math.MaxInt, 1, math.MinInt, 2, 0, 3, -1, 4), of(math.MinInt, 2, -1, 4, 0, 3, math.MaxInt, 1)},
		"as far apart, of one When":          {of(7, math.MaxInt, 7, math.MinInt, 7, 1, 7, -2), of(7, math.MinInt, 7, -2, 7, 1, 7, math.MaxInt)},
		"2^32 apart":                         {of(1<<32, 0, 1, 1, 0, 2, 1<<33, 3), of(0, 2, 1, 1, 1<<32, 0, 1<<33, 3)},
		"2^32 apart, of one When":            {of(0, 1<<32, 0, 1, 0, 0, 0, 1<<33), of(0, 0, 0, 1, 0, 1<<32, 0, 1<<33)},
		"a greater Which at an earlier When": {of(2, 0, 1, math.MaxInt), of(1, math.MaxInt, 2, 0)},
	} {
		becomes(t, about, c.l, deed{call: "Sort"}, done{l: c.want})
		sorts(t, about, c.l)
	}
	for about, l := range rights() {
		becomes(t, about, l, deed{call: "Sort"}, done{l: l})
		becomes(t, about+", the other way round", turned(l, slices.Reverse), deed{call: "Sort"}, done{l: l})
	}
	for about, l := range wrongs() {
		sorts(t, about, l)
	}
}

// P15.2: Sort of all numbers up to 210 that rise, fall, are mixed, and are alike: from 201 on they are as they are.
func TestSortEdges(t *testing.T) {
	for n := range 211 {
		rising := row(n, 3, 2, 900, -1)
		falling := turned(rising, slices.Reverse)
		want := done{l: rising}
		becomes(t, "rising", rising, deed{call: "Sort"}, want)
		if n > 200 {
			want = done{l: falling}
		}
		becomes(t, "falling", falling, deed{call: "Sort"}, want)
		alike := row(n, 3, 0, 8, 0)
		becomes(t, "alike", alike, deed{call: "Sort"}, done{l: alike})
		var mixed []api.Due
		for i := range n {
			mixed = append(mixed, api.Due{When: i * 37 % 11, Which: i * 53 % 7})
		}
		sorts(t, "mixed", mixed)
		becomes(t, "mixed", mixed, deed{call: "Sort"}, deed{call: "Sort"}.asks(mixed))
	}
	for _, n := range []int{199, 200, 201, 255, 256, 257, 400, 456, 1000, 65536, 65636} {
		sorts(t, "far on", row(n, n, -1, 5, 1))
	}
}

// P15.2: Sort of all lists of up to five of which each When and Which is one of three.
func TestSortAllSmall(t *testing.T) {
	var from func(l []api.Due, more int)
	from = func(l []api.Due, more int) {
		if got, want := due.Sort(l), sorted(l); !slices.Equal(got, want) {
			t.Fatalf("%v is sorted to %v; want %v", l, got, want)
		}
		if more == 0 {
			return
		}
		for n := range 9 {
			from(append(slices.Clone(l), api.Due{When: n / 3, Which: n % 3}), more-1)
		}
	}
	from(nil, 5)
}

// lot gives numbers below n that look drawn, the same ones each time.
func lot(state uint64) func(n int) int {
	return func(n int) int {
		state = state*6364136223846793005 + 1442695040888963407
		return int(state>>33) % n
	}
}

// anyNumber gives a number that looks drawn: mostly below some, now and then far on, also below 0.
func anyNumber(draw func(n int) int, some int) int {
	if draw(8) > 0 {
		return draw(some)
	}
	n := draw(1<<30)<<33 + draw(1<<30)
	if draw(2) == 0 {
		return -n
	}
	return n
}

// P15.2: Sort of many drawn lists up to 220, some with many alike ones; sorted again, they are as they were.
func TestSortDrawn(t *testing.T) {
	long, alike := 0, 0
	for seed := range 3000 {
		draw := lot(uint64(seed))
		var l []api.Due
		some := 1 + draw(100)
		for range draw(221) {
			d := api.Due{When: anyNumber(draw, some), Which: anyNumber(draw, some)}
			if len(l) > 0 && draw(6) == 0 {
				d = l[draw(len(l))]
			}
			l = append(l, d)
		}
		sorts(t, "seed "+name(seed), l)
		once := due.Sort(l)
		if again := due.Sort(once); !slices.Equal(again, once) {
			t.Errorf("seed %d: sorted again, %v is %v", seed, once, again)
		}
		if len(l) > 200 {
			long++
		}
		if len(many(l)) < len(l) {
			alike++
		}
	}
	if long < 100 || alike < 1000 {
		t.Errorf("%d long ones, %d with alike ones: too few to tell", long, alike)
	}
}

// P15.2: in whatever order a list of at most 200 stands, it is sorted alike.
func TestSortMixedAgain(t *testing.T) {
	for seed := range 300 {
		draw := lot(uint64(5000 + seed))
		var l []api.Due
		for range 1 + draw(200) {
			l = append(l, api.Due{When: draw(20), Which: draw(20)})
		}
		want := due.Sort(l)
		for range 5 {
			mixed := turned(l, func(l []api.Due) {
				for n := range l {
					i := draw(n + 1)
					l[n], l[i] = l[i], l[n]
				}
			})
			becomes(t, "mixed", mixed, deed{call: "Sort"}, done{l: want})
		}
	}
}
