package clock

import (
	"math"
	"strconv"
	"strings"
	"testing"

	"scupper/api"
)

// top is the time that no clock may come beyond.
const top = 1 << 60

// with is clocks that all show 0.
func with(t *testing.T, nodes, edges int, rho int64) *Clocks {
	t.Helper()
	c, e := New(nodes, edges, rho)
	if c == nil || e != api.OK {
		t.Fatalf("New(%d, %d, %d): %v, %d", nodes, edges, rho, c, e)
	}
	return c
}

// want holds an error against the one that must be.
func want(t *testing.T, what string, got, e api.Errno) {
	t.Helper()
	if got != e {
		t.Errorf("%s: %d; want %d", what, got, e)
	}
}

// do does what must go well.
func do(t *testing.T, list ...api.Errno) {
	t.Helper()
	for i, e := range list {
		if e != api.OK {
			t.Fatalf("step %d: %d; want OK", i, e)
		}
	}
}

// text is all that can be seen of clocks, as "true 5: -1 4, 1 5, 2 6", with "not steady" behind it where they are not.
func text(c *Clocks) string {
	var list []string
	for end := -20; end <= 20; end++ {
		if now, e := c.Now(end); e == api.OK {
			list = append(list, strconv.Itoa(end)+" "+strconv.FormatInt(now, 10))
		}
	}
	out := "true " + strconv.FormatInt(c.True(), 10) + ": " + strings.Join(list, ", ")
	if !c.Steady() {
		out += ", not steady"
	}
	return out
}

// shows holds all that can be seen of clocks against text.
func shows(t *testing.T, what string, c *Clocks, all string) {
	t.Helper()
	if got := text(c); got != all {
		t.Errorf("%s: %q; want %q", what, got, all)
	}
}

// isThere tells of an end as the chapter does.
func isThere(end, nodes, edges int) bool {
	return end >= 1 && end <= nodes || end >= -edges && end <= -1
}

// far are numbers that are no end's, however many there are.
func far() []int {
	list := []int{math.MinInt, math.MinInt + 1, math.MaxInt - 1, math.MaxInt}
	for _, n := range []int{1 << 32, 1<<32 + 1, 1 << 8, 1<<8 + 1, 17, 64} {
		list = append(list, n, -n)
	}
	return list
}

// The chapter's examples.
func TestExample(t *testing.T) {
	c := with(t, 3, 2, 250000)
	do(t, c.Pass(100, 0))
	shows(t, "Pass(100, 0)", c, "true 100: -2 80, -1 80, 1 80, 2 80, 3 80")
	c = with(t, 3, 2, 250000)
	do(t, c.Pass(100, 15))
	shows(t, "Pass(100, 15)", c, "true 100: -2 80, -1 80, 1 125, 2 80, 3 80")
}

// P9.1: all clocks and the true time are 0, and there are just the ends that were asked for.
func TestNew(t *testing.T) {
	for nodes := 1; nodes <= 16; nodes++ {
		for edges := range 17 {
			c := with(t, nodes, edges, 0)
			what := strconv.Itoa(nodes) + " nodes, " + strconv.Itoa(edges) + " edges"
			if c.True() != 0 || !c.Steady() {
				t.Errorf("%s: the true time is %d, steady %t", what, c.True(), c.Steady())
			}
			list := far()
			for end := -20; end <= 20; end++ {
				list = append(list, end)
			}
			for _, end := range list {
				e := api.ErrArg
				if isThere(end, nodes, edges) {
					e = api.OK
				}
				if now, got := c.Now(end); now != 0 || got != e {
					t.Errorf("%s: Now(%d): %d, %d; want %d", what, end, now, got, e)
				}
				want(t, what+": Tick("+strconv.Itoa(end)+", 0)", c.Tick(end, 0), e)
			}
		}
	}
}

// P9.1: which numbers of nodes, of edges, and which rho there may be.
func TestNewRefused(t *testing.T) {
	for _, nodes := range append(far(), -1, 0, 1, 2, 15, 16) {
		for _, edges := range append(far(), -1, 0, 1, 15, 16) {
			for _, rho := range []int64{math.MinInt64, -1, 0, 1, 499999, 500000, 500001, 1 << 32, math.MaxInt64} {
				e := api.ErrArg
				if nodes >= 1 && nodes <= 16 && edges >= 0 && edges <= 16 && rho >= 0 && rho <= 500000 {
					e = api.OK
				}
				c, got := New(nodes, edges, rho)
				if got != e || (c != nil) != (e == api.OK) {
					t.Errorf("New(%d, %d, %d): %v, %d; want %d", nodes, edges, rho, c, got, e)
				}
			}
		}
	}
}

// P9.2: the chapter's sum, written out: what is drawn lies between Least and Most, cut down.
func TestPassByHand(t *testing.T) {
	for _, c := range []struct {
		n, rho int64
		draw   uint64
		now    int64
	}{
		{0, 0, 0, 0},
		{0, 500000, 15, 0},
		{1, 0, 0, 1},
		{1, 0, 15, 1},
		{7, 0, 9, 7},
		{100, 250000, 0, 80},
		{100, 250000, 1, 83},
		{100, 250000, 2, 86},
		{100, 250000, 7, 101},
		{100, 250000, 8, 104},
		{100, 250000, 14, 122},
		{100, 250000, 15, 125},
		{100, 250000, 16, 80},
		{100, 250000, 31, 125},
		{1, 500000, 0, 1}, // Least is cut up
		{1, 500000, 15, 1},
		{2, 500000, 0, 2},
		{2, 500000, 14, 2},
		{2, 500000, 15, 3},
		{10, 250000, 0, 8},
		{10, 250000, 3, 8},
		{10, 250000, 4, 9},
		{10, 250000, 15, 12},
		{11, 250000, 0, 9},
		{11, 250000, 15, 13},
		{1000000, 1, 0, 1000000},
		{1000000, 1, 14, 1000000},
		{1000000, 1, 15, 1000001},
		{api.MaxTerm, 0, 5, api.MaxTerm},
		{api.MaxTerm, 500000, 0, 733007751851},
		{api.MaxTerm, 500000, 7, 1160595607097},
		{api.MaxTerm, 500000, 15, 1649267441664},
	} {
		k := with(t, 1, 0, c.rho)
		do(t, k.Pass(c.n, c.draw))
		shows(t, "Pass("+strconv.FormatInt(c.n, 10)+", "+strconv.FormatUint(c.draw, 10)+"), rho "+strconv.FormatInt(c.rho, 10), k,
			"true "+strconv.FormatInt(c.n, 10)+": 1 "+strconv.FormatInt(c.now, 10))
	}
}

// P9.2: each end has four bits of its own number's: no other ones change what its clock does.
func TestDraw(t *testing.T) {
	for place := range 16 {
		// Edges 1 to 8 have the bits from 32 on, edges 9 to 16 those ahead of them.
		node, edge := place+1, -(place - 7)
		if place < 8 {
			edge = -(place + 9)
		}
		for d := range uint64(16) {
			// Least is 60 and Most 135: so each d gives five more.
			c := with(t, 16, 16, 500000)
			draw := d << (4 * place)
			do(t, c.Pass(90, draw))
			for end := -16; end <= 16; end++ {
				if end == 0 {
					continue
				}
				now := int64(60)
				if end == node || end == edge {
					now += 5 * int64(d)
				}
				if got, e := c.Now(end); got != now || e != api.OK {
					t.Errorf("Pass(90, %x): Now(%d): %d, %d; want %d", draw, end, got, e, now)
				}
			}
		}
	}
}

// P9.2: the bits of all ends, written out: each has the value that its place has.
func TestDrawAtOnce(t *testing.T) {
	c := with(t, 16, 16, 500000)
	do(t, c.Pass(90, 0xfedcba9876543210))
	shows(t, "each its own", c, "true 90: -16 95, -15 90, -14 85, -13 80, -12 75, -11 70, -10 65, -9 60, -8 135, -7 130, -6 125, -5 120, -4 115, -3 110, -2 105, -1 100, "+
		"1 60, 2 65, 3 70, 4 75, 5 80, 6 85, 7 90, 8 95, 9 100, 10 105, 11 110, 12 115, 13 120, 14 125, 15 130, 16 135")
	do(t, c.Pass(90, math.MaxUint64), c.Pass(0, math.MaxUint64))
	shows(t, "all at most", c, "true 180: -16 230, -15 225, -14 220, -13 215, -12 210, -11 205, -10 200, -9 195, -8 270, -7 265, -6 260, -5 255, -4 250, -3 245, -2 240, -1 235, "+
		"1 195, 2 200, 3 205, 4 210, 5 215, 6 220, 7 225, 8 230, 9 235, 10 240, 11 245, 12 250, 13 255, 14 260, 15 265, 16 270")
}

// P9.2, P9.3: a step may be from 0 to MaxTerm; a refused one changes nothing.
func TestSteps(t *testing.T) {
	for _, n := range []int64{math.MinInt64, math.MinInt64 + 1, -1 << 40, -2, -1, api.MaxTerm + 1, 1 << 60, 1<<60 + 1, math.MaxInt64} {
		c := with(t, 2, 1, 250000)
		do(t, c.Pass(100, 15))
		const all = "true 100: -1 80, 1 125, 2 80"
		want(t, "Pass", c.Pass(n, 7), api.ErrArg)
		shows(t, "Pass refused", c, all)
		for _, end := range []int{1, 2, -1, 3, 0} {
			want(t, "Tick", c.Tick(end, n), api.ErrArg)
			shows(t, "Tick refused", c, all)
		}
	}
	c := with(t, 2, 1, 0)
	do(t, c.Pass(api.MaxTerm, 0), c.Tick(-1, api.MaxTerm), c.Tick(2, api.MaxTerm-1))
	shows(t, "the longest", c, "true 1099511627776: -1 2199023255552, 1 1099511627776, 2 2199023255551, not steady")
}

// P9.3: an end that is not there has no clock, and nothing is changed.
func TestNoEnd(t *testing.T) {
	c := with(t, 2, 1, 0)
	do(t, c.Pass(5, 0))
	for _, end := range append(far(), 0, 3, -2, 16, -16) {
		for _, n := range []int64{0, 1, api.MaxTerm, api.MaxTerm + 1, -1} {
			want(t, "Tick", c.Tick(end, n), api.ErrArg)
		}
		if now, e := c.Now(end); now != 0 || e != api.ErrArg {
			t.Errorf("Now(%d): %d, %d", end, now, e)
		}
	}
	shows(t, "refused", c, "true 5: -1 5, 1 5, 2 5")
}

// P9.3: that clock alone goes on; Steady is over with the first step of a clock alone, and for ever, but not by a step of nothing.
func TestTick(t *testing.T) {
	for end, all := range map[int]string{
		1:  "true 10: -2 10, -1 10, 1 17, 2 10, not steady",
		2:  "true 10: -2 10, -1 10, 1 10, 2 17, not steady",
		-1: "true 10: -2 10, -1 17, 1 10, 2 10, not steady",
		-2: "true 10: -2 17, -1 10, 1 10, 2 10, not steady",
	} {
		c := with(t, 2, 2, 0)
		const still = "true 10: -2 10, -1 10, 1 10, 2 10"
		do(t, c.Pass(10, 0), c.Tick(end, 0))
		shows(t, "a Tick of 0", c, still)
		want(t, "Tick refused", c.Tick(end, -1), api.ErrArg)
		want(t, "Tick refused", c.Tick(end, api.MaxTerm+1), api.ErrArg)
		want(t, "Tick refused", c.Tick(3, 7), api.ErrArg)
		shows(t, "refused", c, still)
		do(t, c.Tick(end, 7))
		shows(t, "Tick", c, all)
		do(t, c.Tick(end, 0), c.Pass(0, 0))
		shows(t, "not steady for ever", c, all)
	}
	c := with(t, 1, 0, 0)
	do(t, c.Tick(1, 1))
	shows(t, "the shortest", c, "true 0: 1 1, not steady")
}

// ahead is clocks of one node and one edge of which the one of end shows n, by Ticks.
func ahead(t *testing.T, rho int64, end int, n int64) *Clocks {
	t.Helper()
	c := with(t, 1, 1, rho)
	for n > 0 {
		step := min(n, api.MaxTerm)
		do(t, c.Tick(end, step))
		n -= step
	}
	return c
}

// P9.2, P9.3: no clock comes above 2^60, but up to it; where one would, nothing is changed, whichever it is.
func TestClockOver(t *testing.T) {
	for _, end := range []int{1, -1} {
		c := ahead(t, 250000, end, top-125)
		before := text(c)
		// The end's clock goes on by 80 at least, and by 125 at most.
		want(t, "Pass(101)", c.Pass(101, math.MaxUint64), api.ErrOver)
		want(t, "Pass(157)", c.Pass(157, 0), api.ErrOver)
		want(t, "Pass(2^40)", c.Pass(api.MaxTerm, 0), api.ErrOver)
		want(t, "Pass(-1)", c.Pass(-1, 0), api.ErrArg)
		want(t, "Tick(126)", c.Tick(end, 126), api.ErrOver)
		want(t, "Tick(2^40)", c.Tick(end, api.MaxTerm), api.ErrOver)
		want(t, "Tick(2^40 + 1)", c.Tick(end, api.MaxTerm+1), api.ErrArg)
		shows(t, "refused", c, before)
		do(t, c.Tick(-end, 3))

		one, two := c.Copy(), c.Copy()
		do(t, one.Pass(100, math.MaxUint64), two.Tick(end, 125))
		for _, c := range []*Clocks{one, two} {
			if now, _ := c.Now(end); now != top {
				t.Errorf("Now(%d): %d; want 2^60", end, now)
			}
			before := text(c)
			want(t, "Pass(1) at the end", c.Pass(1, 0), api.ErrOver)
			want(t, "Tick(1) at the end", c.Tick(end, 1), api.ErrOver)
			shows(t, "refused at the end", c, before)
			do(t, c.Pass(0, math.MaxUint64), c.Tick(end, 0), c.Tick(-end, 1))
		}
	}
}

// P9.3: a Tick that is refused does not end Steady.
func TestSteadyAtTheEnd(t *testing.T) {
	c := with(t, 1, 0, 0)
	for range 1 << 20 {
		do(t, c.Pass(api.MaxTerm, 0))
	}
	const all = "true 1152921504606846976: 1 1152921504606846976"
	shows(t, "at the end", c, all)
	want(t, "Tick", c.Tick(1, 1), api.ErrOver)
	want(t, "Pass", c.Pass(1, 0), api.ErrOver)
	do(t, c.Tick(1, 0), c.Pass(0, 3))
	shows(t, "refused", c, all)
}

// P9.2: the true time does not come above 2^60 either, where all clocks are behind it.
func TestTrueOver(t *testing.T) {
	c := with(t, 1, 0, 500000)
	for range 1<<20 - 1 {
		do(t, c.Pass(api.MaxTerm, 0))
	}
	do(t, c.Pass(api.MaxTerm-90, 0))
	before := text(c)
	if now, _ := c.Now(1); now > top/3*2+1<<20 {
		t.Fatalf("the clock is not behind: %s", before)
	}
	want(t, "Pass(91)", c.Pass(91, 0), api.ErrOver)
	want(t, "Pass(2^40)", c.Pass(api.MaxTerm, 0), api.ErrOver)
	shows(t, "refused", c, before)
	do(t, c.Pass(90, 0))
	if c.True() != top {
		t.Errorf("the true time is %d; want 2^60", c.True())
	}
	want(t, "Pass(1)", c.Pass(1, 0), api.ErrOver)
	do(t, c.Tick(1, api.MaxTerm))
}

// P9.4: a copy does the same, and neither hears of what is done to the other.
func TestCopy(t *testing.T) {
	c := with(t, 2, 1, 250000)
	do(t, c.Pass(100, 15))
	const all = "true 100: -1 80, 1 125, 2 80"
	d := c.Copy()
	for _, x := range []struct{ one, other *Clocks }{{c, d}, {d, c}} {
		one, other := x.one.Copy(), x.other
		do(t, one.Tick(1, 5), one.Tick(-1, 1), one.Pass(100, 0xf0))
		shows(t, "the one", one, "true 200: -1 161, 1 210, 2 205, not steady")
		shows(t, "the other", other, all)
		shows(t, "what was copied", x.one, all)
		shows(t, "a copy of what is not steady", one.Copy(), "true 200: -1 161, 1 210, 2 205, not steady")
	}
	do(t, c.Tick(2, 1), d.Pass(100, 0))
	shows(t, "ticked", c, "true 100: -1 80, 1 125, 2 81, not steady")
	shows(t, "passed", d, "true 200: -1 160, 1 205, 2 160")
}

// P9.4: no clocks.
func TestNil(t *testing.T) {
	var c *Clocks
	for _, n := range []int64{0, 1, -1, api.MaxTerm, math.MinInt64, math.MaxInt64} {
		want(t, "Pass", c.Pass(n, 15), api.ErrArg)
		want(t, "Tick", c.Tick(1, n), api.ErrArg)
	}
	for _, end := range append(far(), -1, 0, 1) {
		want(t, "Tick", c.Tick(end, 0), api.ErrArg)
		if now, e := c.Now(end); now != 0 || e != api.ErrArg {
			t.Errorf("Now(%d): %d, %d", end, now, e)
		}
	}
	if c.True() != 0 || c.Steady() || c.Copy() != nil {
		t.Errorf("True %d, Steady %t, Copy %v", c.True(), c.Steady(), c.Copy())
	}
}

// R1: clocks that nobody made have no ends, and do all else.
func TestZero(t *testing.T) {
	var c Clocks
	want(t, "Tick", c.Tick(1, 1), api.ErrArg)
	shows(t, "zero", &c, "true 0: ")
	do(t, c.Pass(5, math.MaxUint64), c.Copy().Pass(1, 0))
	want(t, "Pass", c.Pass(-1, 0), api.ErrArg)
	shows(t, "passed", c.Copy(), "true 5: ")
}
