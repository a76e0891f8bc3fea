package clock

import (
	"maps"
	"math/big"
	"math/rand"
	"slices"
	"strconv"
	"strings"
	"testing"

	"scupper/api"
	"scupper/sum"
)

// model is clocks as the chapter tells them, in numbers of any size.
type model struct {
	true  *big.Int
	now   map[int]*big.Int
	rho   int64
	moved bool
}

func newModel(nodes, edges int, rho int64) *model {
	m := &model{true: new(big.Int), now: map[int]*big.Int{}, rho: rho}
	for end := -edges; end <= nodes; end++ {
		if end != 0 {
			m.now[end] = new(big.Int)
		}
	}
	return m
}

func isStep(n int64) bool { return n >= 0 && n <= 1<<40 }

func isOver(n *big.Int) bool { return n.Cmp(new(big.Int).Lsh(big.NewInt(1), 60)) > 0 }

// bits are the four bits of an end.
func bits(draw uint64, end int) int64 {
	from := 4 * (end - 1)
	if end < 0 {
		from = 4 * (-end + 7) % 64
	}
	d := int64(0)
	for i := range 4 {
		d += int64(new(big.Int).SetUint64(draw).Bit(from+i)) << i
	}
	return d
}

// step is how far an end's clock goes on.
func (m *model) step(n int64, draw uint64, end int) *big.Int {
	million, fast := big.NewInt(1000000), big.NewInt(1000000+m.rho)
	most := new(big.Int).Mul(big.NewInt(n), fast)
	most.Quo(most, million)
	least, rest := new(big.Int).QuoRem(new(big.Int).Mul(big.NewInt(n), million), fast, new(big.Int))
	if rest.Sign() > 0 {
		least.Add(least, big.NewInt(1))
	}
	part := new(big.Int).Mul(new(big.Int).Sub(most, least), big.NewInt(bits(draw, end)))
	return part.Quo(part, big.NewInt(15)).Add(part, least)
}

func (m *model) pass(n int64, draw uint64) api.Errno {
	if !isStep(n) {
		return api.ErrArg
	}
	next := &model{true: new(big.Int).Add(m.true, big.NewInt(n)), now: map[int]*big.Int{}, rho: m.rho, moved: m.moved}
	over := isOver(next.true)
	for end, now := range m.now {
		next.now[end] = new(big.Int).Add(now, m.step(n, draw, end))
		over = over || isOver(next.now[end])
	}
	if over {
		return api.ErrOver
	}
	*m = *next
	return api.OK
}

func (m *model) tick(end int, n int64) api.Errno {
	if m.now[end] == nil || !isStep(n) {
		return api.ErrArg
	}
	next := new(big.Int).Add(m.now[end], big.NewInt(n))
	if isOver(next) {
		return api.ErrOver
	}
	m.now = maps.Clone(m.now)
	m.now[end] = next
	m.moved = m.moved || n > 0
	return api.OK
}

func (m *model) text() string {
	var list []string
	for _, end := range slices.Sorted(maps.Keys(m.now)) {
		list = append(list, strconv.Itoa(end)+" "+m.now[end].String())
	}
	out := "true " + m.true.String() + ": " + strings.Join(list, ", ")
	if m.moved {
		out += ", not steady"
	}
	return out
}

// pair is clocks and their model.
type pair struct {
	c *Clocks
	m *model
}

// copied is the same again, with nothing in common; a model's parts are never changed in place.
func (x pair) copied() pair {
	m := *x.m
	return pair{x.c.Copy(), &m}
}

func anyRho(r *rand.Rand) int64 {
	return []int64{0, 1, 250000, 499999, 500000, r.Int63n(500001), r.Int63n(500001)}[r.Intn(7)]
}

func anyStep(r *rand.Rand) int64 {
	switch r.Intn(12) {
	case 0:
		return []int64{-1, -1 << 62, 1<<40 + 1, 1<<63 - 1}[r.Intn(4)]
	case 1:
		return 1 << 40
	case 2:
		return 0
	}
	return r.Int63n(1 << r.Intn(41))
}

// farAhead moves the true time and all clocks near their ends, in both; what Pass and Tick come to there is told by the tests at the ends.
func (x pair) farAhead(r *rand.Rand) {
	near := func() int64 { return top - r.Int63n(1<<41) }
	now := near()
	x.c.time, x.m.true = now, big.NewInt(now)
	for end := range x.m.now {
		now := near()
		x.c.shown[end], x.m.now[end] = now, big.NewInt(now)
	}
}

// P9.1 to P9.4: any calls in any order, some of them to copies, while what was copied stays as it is.
func TestAgainstModel(t *testing.T) {
	var seen [api.ErrOrder + 1]int
	for seed := range int64(300) {
		r := rand.New(rand.NewSource(seed))
		nodes, edges, rho := 1+r.Intn(16), r.Intn(17), anyRho(r)
		x := pair{with(t, nodes, edges, rho), newModel(nodes, edges, rho)}
		if seed%3 == 0 {
			x.farAhead(r)
		}
		left := x.copied()
		for i := range 60 {
			if r.Intn(10) == 0 {
				shows(t, "what was copied", left.c, left.m.text())
				left, x = x, x.copied()
			}
			n, end, draw := anyStep(r), r.Intn(40)-20, r.Uint64()
			what, got, e := "Pass", api.OK, api.OK
			// Ticks are the rarer ones, so that many clocks are steady for long.
			if r.Intn(5) == 0 {
				what, got, e = "Tick "+strconv.Itoa(end), x.c.Tick(end, n), x.m.tick(end, n)
			} else {
				got, e = x.c.Pass(n, draw), x.m.pass(n, draw)
			}
			what = "seed " + strconv.FormatInt(seed, 10) + ", step " + strconv.Itoa(i) + ": " + what + " " + strconv.FormatInt(n, 10)
			want(t, what, got, e)
			shows(t, what, x.c, x.m.text())
			if t.Failed() {
				t.FailNow()
			}
			seen[e]++
		}
	}
	for _, e := range []api.Errno{api.OK, api.ErrArg, api.ErrOver} {
		if seen[e] < 300 {
			t.Errorf("the error %d came %d times alone", e, seen[e])
		}
	}
}

// What follows: while Steady, between any two moments each clock goes on by at most Most and at least Least of what the true time does.
func TestKeepsWithinRho(t *testing.T) {
	for seed := range int64(40) {
		r := rand.New(rand.NewSource(seed))
		rho := anyRho(r)
		moments := []*Clocks{with(t, 16, 16, rho)}
		for range 30 {
			c := moments[len(moments)-1].Copy()
			do(t, c.Pass(r.Int63n(1<<r.Intn(35)), r.Uint64()))
			moments = append(moments, c)
		}
		for i, one := range moments {
			for _, two := range moments[i:] {
				least, _ := sum.Least(two.True()-one.True(), rho)
				most, _ := sum.Most(two.True()-one.True(), rho)
				for end := range one.shown {
					from, _ := one.Now(end)
					to, _ := two.Now(end)
					if to-from < least || to-from > most || !two.Steady() {
						t.Fatalf("seed %d, end %d: %d; want from %d to %d", seed, end, to-from, least, most)
					}
				}
			}
		}
	}
}

// R5: the same calls, done again from the beginning, have the same answers.
func TestAgain(t *testing.T) {
	run := func() string {
		r := rand.New(rand.NewSource(5))
		c := with(t, 16, 16, 123456)
		out := ""
		for range 200 {
			n, end := anyStep(r), r.Intn(40)-20
			out += text(c) + strconv.Itoa(int(c.Pass(n, r.Uint64()))) + strconv.Itoa(int(c.Tick(end, n)))
		}
		return out
	}
	if run() != run() {
		t.Error("not the same again")
	}
}
