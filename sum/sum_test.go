package sum

import (
	"math"
	"math/big"
	"math/rand"
	"slices"
	"testing"

	"scupper/api"
)

const (
	top    = math.MaxInt64
	bottom = math.MinInt64
)

// ends are the numbers at which sums and products turn from small enough to too large.
func ends() []int64 {
	list := []int64{0, 1, -1, 2, -2, 3, -3, 7, 10, -10, 1000000, -1000000}
	for _, n := range []int64{top, bottom, top / 2, bottom / 2, top / 3, bottom / 3, 1 << 31, -1 << 31, 1 << 32, -1 << 32, 3037000499, -3037000499, 1 << 40} {
		list = append(list, n)
		if n != top {
			list = append(list, n+1)
		}
		if n != bottom {
			list = append(list, n-1)
		}
	}
	return list
}

// fit is what a call must answer whose exact result is n.
func fit(n *big.Int) (int64, api.Errno) {
	if n.IsInt64() {
		return n.Int64(), api.OK
	}
	return 0, api.ErrOver
}

type pairCall struct {
	name  string
	call  func(a, b int64) (int64, api.Errno)
	exact func(a, b *big.Int) *big.Int
}

func pairCalls() []pairCall {
	return []pairCall{
		{"Add", Add, func(a, b *big.Int) *big.Int { return new(big.Int).Add(a, b) }},
		{"Sub", Sub, func(a, b *big.Int) *big.Int { return new(big.Int).Sub(a, b) }},
		{"Mul", Mul, func(a, b *big.Int) *big.Int { return new(big.Int).Mul(a, b) }},
	}
}

func (p pairCall) try(t *testing.T, a, b int64) {
	t.Helper()
	want, wantE := fit(p.exact(big.NewInt(a), big.NewInt(b)))
	if got, e := p.call(a, b); got != want || e != wantE {
		t.Errorf("%s(%d, %d): %d, %d; want %d, %d", p.name, a, b, got, e, want, wantE)
	}
}

// P1.1: the chapter's examples, and ordinary numbers, written out.
func TestPairsByHand(t *testing.T) {
	for _, c := range []struct {
		name string
		call func(a, b int64) (int64, api.Errno)
		a, b int64
		want int64
		e    api.Errno
	}{
		{"Add", Add, 2, 3, 5, api.OK},
		{"Add", Add, -2, -3, -5, api.OK},
		{"Add", Add, top, bottom, -1, api.OK},
		{"Add", Add, top, 0, top, api.OK},
		{"Add", Add, top - 1, 1, top, api.OK},
		{"Add", Add, top, 1, 0, api.ErrOver},
		{"Add", Add, 1, top, 0, api.ErrOver},
		{"Add", Add, bottom, -1, 0, api.ErrOver},
		{"Add", Add, bottom, bottom, 0, api.ErrOver},
		{"Sub", Sub, 2, 3, -1, api.OK},
		{"Sub", Sub, -5, 3, -8, api.OK},
		{"Sub", Sub, -1, bottom, top, api.OK},
		{"Sub", Sub, 0, bottom, 0, api.ErrOver},
		{"Sub", Sub, bottom, bottom, 0, api.OK},
		{"Sub", Sub, bottom, 1, 0, api.ErrOver},
		{"Sub", Sub, top, -1, 0, api.ErrOver},
		{"Sub", Sub, -2, top, 0, api.ErrOver},
		{"Sub", Sub, -1, top, bottom, api.OK},
		{"Mul", Mul, 6, -7, -42, api.OK},
		{"Mul", Mul, 0, bottom, 0, api.OK},
		{"Mul", Mul, bottom, 0, 0, api.OK},
		{"Mul", Mul, bottom, 1, bottom, api.OK},
		{"Mul", Mul, bottom, -1, 0, api.ErrOver},
		{"Mul", Mul, -1, bottom, 0, api.ErrOver},
		{"Mul", Mul, top, -1, -top, api.OK},
		{"Mul", Mul, 1 << 62, 2, 0, api.ErrOver},
		{"Mul", Mul, 1 << 62, -2, bottom, api.OK},
		{"Mul", Mul, 1 << 32, 1 << 32, 0, api.ErrOver},
	} {
		if got, e := c.call(c.a, c.b); got != c.want || e != c.e {
			t.Errorf("%s(%d, %d): %d, %d; want %d, %d", c.name, c.a, c.b, got, e, c.want, c.e)
		}
	}
}

// P1.1: every pair of ends, against numbers of any size.
func TestPairsAtEnds(t *testing.T) {
	for _, p := range pairCalls() {
		for _, a := range ends() {
			for _, b := range ends() {
				p.try(t, a, b)
			}
		}
	}
}

// P1.1: pairs of all lengths, so that about as many are too large as are not.
func TestPairsAtLarge(t *testing.T) {
	r := rand.New(rand.NewSource(1))
	draw := func() int64 { return int64(r.Uint64()) >> r.Intn(64) }
	for _, p := range pairCalls() {
		for range 20000 {
			p.try(t, draw(), draw())
		}
	}
}

// P1.1: Total, by hand: it goes from the left, and gives up at the first sum that is too large.
func TestTotal(t *testing.T) {
	for _, c := range []struct {
		list []int64
		want int64
		e    api.Errno
	}{
		{nil, 0, api.OK},
		{[]int64{}, 0, api.OK},
		{[]int64{7}, 7, api.OK},
		{[]int64{bottom}, bottom, api.OK},
		{[]int64{1, 2, 3, -10}, -4, api.OK},
		{[]int64{top, bottom, top, 1}, top, api.OK},
		{[]int64{5, top, -9}, 0, api.ErrOver},
		{[]int64{5, -9, top}, top - 4, api.OK},
		{[]int64{-9, top, 5}, top - 4, api.OK},
		{[]int64{bottom, -1, 1}, 0, api.ErrOver},
		{[]int64{bottom, 1, -1}, bottom, api.OK},
		{[]int64{1, 2, top}, 0, api.ErrOver},
	} {
		if got, e := Total(c.list...); got != c.want || e != c.e {
			t.Errorf("Total(%v): %d, %d; want %d, %d", c.list, got, e, c.want, c.e)
		}
	}
	if got, e := Total(); got != 0 || e != api.OK {
		t.Errorf("Total of nothing: %d, %d", got, e)
	}
}

// P1.1: Total, against numbers of any size that are held against the ends at each step.
func TestTotalAtEnds(t *testing.T) {
	r := rand.New(rand.NewSource(2))
	all := ends()
	for range 20000 {
		list := make([]int64, r.Intn(6))
		want, wantE, exact := int64(0), api.OK, new(big.Int)
		for i := range list {
			list[i] = all[r.Intn(len(all))]
			if wantE == api.OK {
				want, wantE = fit(exact.Add(exact, big.NewInt(list[i])))
			}
		}
		if got, e := Total(list...); got != want || e != wantE {
			t.Fatalf("Total(%v): %d, %d; want %d, %d", list, got, e, want, wantE)
		}
	}
}

// R4: what Total is handed is not changed, its spare room included.
func TestTotalLeavesItsList(t *testing.T) {
	for _, whole := range [][]int64{{1, 2, 3, 4, 5}, {1, top, -9, 4, 5}} {
		before := slices.Clone(whole)
		Total(whole[:3]...)
		if !slices.Equal(whole, before) {
			t.Errorf("Total changed %v to %v", before, whole)
		}
	}
}

type driftCall struct {
	name  string
	call  func(t, rho int64) (int64, api.Errno)
	exact func(t, rho *big.Int) *big.Int
}

func driftCalls() []driftCall {
	m := big.NewInt(1000000)
	shrink := func(t, rho *big.Int) *big.Int {
		n := new(big.Int).Mul(t, m)
		return n.Quo(n, new(big.Int).Add(m, rho))
	}
	return []driftCall{
		{"Most", Most, func(t, rho *big.Int) *big.Int {
			n := new(big.Int).Add(m, rho)
			return n.Quo(n.Mul(n, t), m)
		}},
		{"Least", Least, func(t, rho *big.Int) *big.Int {
			n, rest := new(big.Int).Mul(t, m), new(big.Int)
			n.QuoRem(n, new(big.Int).Add(m, rho), rest)
			if rest.Sign() > 0 {
				n.Add(n, big.NewInt(1))
			}
			return n
		}},
		{"Shrink", Shrink, shrink},
		{"Guard", Guard, func(t, rho *big.Int) *big.Int { return shrink(shrink(t, rho), rho) }},
	}
}

func (d driftCall) try(t *testing.T, span, rho int64) {
	t.Helper()
	want := d.exact(big.NewInt(span), big.NewInt(rho)).Int64()
	if got, e := d.call(span, rho); got != want || e != api.OK {
		t.Errorf("%s(%d, %d): %d, %d; want %d", d.name, span, rho, got, e, want)
	}
}

// P1.2: the chapter's examples and the ends, written out.
func TestDriftByHand(t *testing.T) {
	for _, c := range []struct {
		name   string
		call   func(t, rho int64) (int64, api.Errno)
		t, rho int64
		want   int64
	}{
		{"Most", Most, 10, 250000, 12},
		{"Least", Least, 10, 250000, 8},
		{"Shrink", Shrink, 10, 250000, 8},
		{"Shrink", Shrink, 11, 250000, 8},
		{"Least", Least, 11, 250000, 9},
		{"Guard", Guard, 100, 250000, 64},
		{"Guard", Guard, 4, 250000, 2},
		{"Guard", Guard, 11, 250000, 6},
		{"Most", Most, 0, api.MaxRho, 0},
		{"Least", Least, 0, api.MaxRho, 0},
		{"Shrink", Shrink, 0, api.MaxRho, 0},
		{"Guard", Guard, 0, api.MaxRho, 0},
		{"Most", Most, 1, api.MaxRho, 1},
		{"Least", Least, 1, api.MaxRho, 1},
		{"Shrink", Shrink, 1, api.MaxRho, 0},
		{"Guard", Guard, 1, api.MaxRho, 0},
		{"Most", Most, 1, 0, 1},
		{"Least", Least, 1, 0, 1},
		{"Shrink", Shrink, 1, 0, 1},
		{"Guard", Guard, 1, 0, 1},
		{"Least", Least, 1, 1, 1},
		{"Shrink", Shrink, 1, 1, 0},
		{"Most", Most, api.MaxTerm, 0, api.MaxTerm},
		{"Most", Most, api.MaxTerm, api.MaxRho, api.MaxTerm * 3 / 2},
		{"Shrink", Shrink, api.MaxTerm, api.MaxRho, 733007751850},
		{"Least", Least, api.MaxTerm, api.MaxRho, 733007751851},
		{"Guard", Guard, api.MaxTerm, api.MaxRho, 488671834566},
	} {
		if got, e := c.call(c.t, c.rho); got != c.want || e != api.OK {
			t.Errorf("%s(%d, %d): %d, %d; want %d", c.name, c.t, c.rho, got, e, c.want)
		}
	}
}

// P1.2: what may not be is refused with nothing beside it, and what just may be is not.
func TestDriftRefuses(t *testing.T) {
	for _, d := range driftCalls() {
		for _, c := range []struct{ t, rho int64 }{
			{-1, 0}, {api.MaxTerm + 1, 0}, {bottom, 0}, {top, 0},
			{10, -1}, {10, api.MaxRho + 1}, {10, bottom}, {10, top}, {10, -1000000},
			{0, -1}, {0, api.MaxRho + 1}, {api.MaxTerm, api.MaxRho + 1}, {api.MaxTerm + 1, api.MaxRho},
			{-1, -1}, {top, top}, {bottom, bottom},
		} {
			if got, e := d.call(c.t, c.rho); got != 0 || e != api.ErrArg {
				t.Errorf("%s(%d, %d): %d, %d; want 0, ErrArg", d.name, c.t, c.rho, got, e)
			}
		}
		for _, span := range []int64{0, api.MaxTerm} {
			for _, rho := range []int64{0, api.MaxRho} {
				d.try(t, span, rho)
			}
		}
	}
}

// P1.2: small times one by one, and large ones, against numbers of any size.
func TestDriftAtLarge(t *testing.T) {
	r := rand.New(rand.NewSource(3))
	for _, d := range driftCalls() {
		for _, rho := range []int64{0, 1, 2, 3, 999, 1000, 100000, 250000, 333333, 499999, api.MaxRho} {
			for span := range int64(200) {
				d.try(t, span, rho)
				d.try(t, api.MaxTerm-span, rho)
			}
		}
		for range 5000 {
			d.try(t, r.Int63n(api.MaxTerm+1)>>r.Intn(41), r.Int63n(api.MaxRho+1))
		}
	}
}

// What follows from P1.2: even where the one clock is as fast and the other as slow as may be, Guard of t by the slow one is over no later than t by the fast one.
func TestGuardIsOverFirst(t *testing.T) {
	for _, rho := range []int64{0, 1, 1000, 250000, 333333, api.MaxRho} {
		for span := range int64(2000) {
			guard, _ := Guard(span, rho)
			// Guard by a slow clock takes guard (m + rho) / m of true time; in that a fast one goes on by (m + rho) / m more.
			fast := new(big.Int).Mul(big.NewInt(guard), big.NewInt((1000000+rho)*(1000000+rho)))
			if fast.Cmp(new(big.Int).Mul(big.NewInt(span), big.NewInt(1000000*1000000))) > 0 {
				t.Fatalf("Guard(%d, %d) is %d: too long", span, rho, guard)
			}
		}
	}
}
