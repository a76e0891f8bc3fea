package quota

import (
	"math"
	"slices"
	"strconv"
	"testing"

	"scupper/api"
)

// parts are what a table is Loaded from.
type parts struct {
	time int64
	last uint64
	b    []api.Budget
	l    []api.Lease
}

// some are parts that can be: two budgets, and leases of three keys.
func some() parts {
	return parts{
		time: 100,
		last: 9,
		b:    []api.Budget{{Key: "k", Amount: 10}, {Key: "m", Amount: 1}},
		l: []api.Lease{
			{ID: 2, Session: 1, Key: "m", Amount: 3, Until: 101},
			{ID: 5, Session: 2, Key: "k", Amount: 4, Until: 200},
			{ID: 7, Session: 1, Key: "n", Amount: 5, Until: 300},
		},
	}
}

const someText = "at 100, last 9; k 10; m 1; 2: 1 has 3 of m till 101; 5: 2 has 4 of k till 200; 7: 1 has 5 of n till 300"

func (p parts) load(a *Table) api.Errno { return a.Load(p.time, p.last, p.b, p.l) }

// partsOf are those of a table.
func partsOf(a *Table) parts { return parts{a.Time(), a.Last(), a.Budgets(), a.Leases()} }

// other is a table with something, which a Load takes away, if it is OK.
func other(t *testing.T) *Table {
	t.Helper()
	a := New()
	sets(t, a, "k", 3, 0)
	sets(t, a, "x", 4, 0)
	lends(t, a, 8, "x", 2, 1000, "1: 8 has 2 of x till 1000")
	passes(t, a, 500, "")
	return a
}

// loads holds that parts can be, and what comes of them.
func loads(t *testing.T, what string, p parts) *Table {
	t.Helper()
	a := other(t)
	want(t, what, p.load(a), api.OK)
	got := partsOf(a)
	if got.time != p.time || got.last != p.last || !slices.Equal(got.b, p.b) || !slices.Equal(got.l, p.l) {
		t.Errorf("%s: %q", what, text(a))
	}
	return a
}

// cannot holds that parts can not be, and that nothing is changed by them.
func cannot(t *testing.T, what string, p parts) {
	t.Helper()
	a := other(t)
	before := text(a)
	want(t, what, p.load(a), api.ErrForm)
	shows(t, what, a, before)
	isLent(t, a, "x", 4, 2)
}

// P13.4: it is that table, and goes on as that one does.
func TestLoad(t *testing.T) {
	a := loads(t, "some", some())
	shows(t, "some", a, someText)
	isLent(t, a, "k", 10, 4)
	isLent(t, a, "m", 1, 3)
	isLent(t, a, "n", 0, 5)
	isLent(t, a, "x", 0, 0)
	refusesRenew(t, a, 1, 2, 50, api.ErrQuota)
	refusesBack(t, a, 8, 1, api.ErrGone)
	lends(t, a, 3, "k", 6, 50, "10: 3 has 6 of k till 150")
	passes(t, a, 1, "2")
	l, e := a.Renew(2, 5, 100)
	tells(t, "Renew", l, e, "5: 2 has 4 of k till 201")
	loads(t, "nothing", parts{})
	loads(t, "nothing but numbers", parts{time: 7, last: 8})
	a = other(t)
	want(t, "empty lists", a.Load(0, 0, []api.Budget{}, []api.Lease{}), api.OK)
	shows(t, "empty lists", a, "at 0, last 0")
}

// P13.4: which times there are.
func TestLoadTime(t *testing.T) {
	for _, time := range []int64{0, 1, 1 << 40, top - 1, top} {
		loads(t, "time "+decimal(time), parts{time: time, last: 3, b: some().b})
	}
	for _, time := range []int64{math.MinInt64, -top, -1, top + 1, 1 << 62, math.MaxInt64} {
		cannot(t, "time "+decimal(time), parts{time: time, last: 3, b: some().b})
		cannot(t, "nothing at time "+decimal(time), parts{time: time})
	}
}

// P13.4: which budgets there are.
func TestLoadBudgets(t *testing.T) {
	type list = []api.Budget
	for _, b := range []list{
		{{Key: "k", Amount: 1}},
		{{Key: "k", Amount: math.MaxInt64}, {Key: "l", Amount: math.MaxInt64}},
		{{Key: "\x00", Amount: 1}, {Key: "\x00\x00", Amount: 1}, {Key: "a", Amount: 1}, {Key: "a\x00", Amount: 1}, {Key: "\xff", Amount: 1}},
		{{Key: long(api.MaxKey - 1), Amount: 1}, {Key: long(api.MaxKey), Amount: 1}},
	} {
		loads(t, "budgets", parts{b: b})
	}
	for _, b := range []list{
		{{Key: "", Amount: 1}},
		{{Key: long(api.MaxKey + 1), Amount: 1}},
		{{Key: "k", Amount: 0}},
		{{Key: "k", Amount: -1}},
		{{Key: "k", Amount: math.MinInt64}},
		{{Key: "k", Amount: 1}, {Key: "k", Amount: 1}},
		{{Key: "k", Amount: 1}, {Key: "k", Amount: 2}},
		{{Key: "l", Amount: 1}, {Key: "k", Amount: 1}},
		{{Key: "aa", Amount: 1}, {Key: "a", Amount: 1}},
		{{Key: "\xff", Amount: 1}, {Key: "a", Amount: 1}},
		{{Key: "a", Amount: 1}, {Key: "c", Amount: 1}, {Key: "b", Amount: 1}},
		{{Key: "a", Amount: 1}, {Key: "b", Amount: 0}, {Key: "c", Amount: 1}},
		{{Key: "a", Amount: 1}, {Key: "b", Amount: 1}, {Key: "", Amount: 1}},
		{{}},
	} {
		cannot(t, "budgets", parts{b: b})
		p := some()
		p.b = b
		cannot(t, "budgets beside leases", p)
	}
	var many list
	for i := range api.MaxKeys + 1 {
		many = append(many, api.Budget{Key: string(rune('a'-32+i)) + "k", Amount: int64(i + 1)})
	}
	a := loads(t, "MaxKeys budgets", parts{b: many[:api.MaxKeys]})
	refusesSet(t, a, "k", 1, api.ErrLarge)
	cannot(t, "more than MaxKeys budgets", parts{b: many})
}

// P13.4: which leases there are.
func TestLoadLeases(t *testing.T) {
	good := api.Lease{ID: 5, Session: 3, Key: "k", Amount: 4, Until: 101}
	for what, change := range map[string]func(l *api.Lease){
		"as it is":            func(l *api.Lease) {},
		"number 1":            func(l *api.Lease) { l.ID = 1 },
		"number 9":            func(l *api.Lease) { l.ID = 9 },
		"session 1":           func(l *api.Lease) { l.Session = 1 },
		"the greatest one":    func(l *api.Lease) { l.Session = math.MaxUint64 },
		"the longest key":     func(l *api.Lease) { l.Key = long(api.MaxKey) },
		"a key of a nought":   func(l *api.Lease) { l.Key = "\x00" },
		"amount 1":            func(l *api.Lease) { l.Amount = 1 },
		"the greatest amount": func(l *api.Lease) { l.Amount = math.MaxInt64 },
		"the greatest Until":  func(l *api.Lease) { l.Until = 1 << 62 },
	} {
		l := good
		change(&l)
		loads(t, what, parts{time: 100, last: 9, l: []api.Lease{l}})
	}
	bad := map[string]func(l *api.Lease){
		"number 0":           func(l *api.Lease) { l.ID = 0 },
		"a number above":     func(l *api.Lease) { l.ID = 10 },
		"one far above":      func(l *api.Lease) { l.ID = math.MaxUint64 },
		"session 0":          func(l *api.Lease) { l.Session = 0 },
		"no key":             func(l *api.Lease) { l.Key = "" },
		"a key too long":     func(l *api.Lease) { l.Key = long(api.MaxKey + 1) },
		"amount 0":           func(l *api.Lease) { l.Amount = 0 },
		"an amount below":    func(l *api.Lease) { l.Amount = -1 },
		"the least amount":   func(l *api.Lease) { l.Amount = math.MinInt64 },
		"Until now":          func(l *api.Lease) { l.Until = 100 },
		"Until 0":            func(l *api.Lease) { l.Until = 0 },
		"the least Until":    func(l *api.Lease) { l.Until = math.MinInt64 },
		"an Until above":     func(l *api.Lease) { l.Until = 1<<62 + 1 },
		"the greatest Until": func(l *api.Lease) { l.Until = math.MaxInt64 },
		"nothing":            func(l *api.Lease) { *l = api.Lease{} },
	}
	for what, change := range bad {
		l := good
		change(&l)
		cannot(t, what, parts{time: 100, last: 9, l: []api.Lease{l}})
		cannot(t, what, parts{time: 100, last: 9, b: some().b, l: []api.Lease{l}})
		// It is found at any place.
		for at := range 3 {
			p := some()
			number := p.l[at].ID
			change(&p.l[at])
			if p.l[at].ID == good.ID {
				p.l[at].ID = number
			}
			cannot(t, what+" at "+strconv.Itoa(at), p)
		}
	}
}

// P13.4: numbers rise, and none is above the last one.
func TestLoadNumbers(t *testing.T) {
	of := func(last uint64, numbers ...uint64) parts {
		p := parts{last: last}
		for _, n := range numbers {
			p.l = append(p.l, api.Lease{ID: n, Session: 1, Key: "k", Amount: 1, Until: 5})
		}
		return p
	}
	for _, p := range []parts{of(0), of(1), of(math.MaxUint64), of(1, 1), of(2, 1), of(2, 1, 2), of(9, 3, 4, 9), of(1<<63, 5, 1<<63), of(math.MaxUint64, 1, math.MaxUint64)} {
		loads(t, "numbers", p)
	}
	for _, p := range []parts{of(0, 1), of(0, 0), of(2, 3), of(9, 1, 1), of(9, 2, 1), of(9, 1, 3, 2), of(9, 3, 4, 10), of(9, 0, 1), of(9, 1, 0), of(5, 5, math.MaxUint64)} {
		cannot(t, "numbers", p)
	}
	many := of(1000)
	for i := range uint64(api.MaxLeases + 1) {
		many.l = append(many.l, api.Lease{ID: i + 1, Session: 1, Key: "k", Amount: 1, Until: 5})
	}
	cannot(t, "more than MaxLeases", many)
	many.l = many.l[:api.MaxLeases]
	many.b = []api.Budget{{Key: "k", Amount: 1000}}
	a := loads(t, "MaxLeases", many)
	refusesLend(t, a, 1, "k", 1, 1, api.ErrLarge)
}

// P13.4: what is lent of one key is an int64.
func TestLoadSums(t *testing.T) {
	of := func(of ...api.Lease) parts {
		p := parts{last: 100}
		for i, l := range of {
			l.ID, l.Session, l.Until = uint64(i+1), 1, 5
			p.l = append(p.l, l)
		}
		return p
	}
	const most = math.MaxInt64
	loads(t, "just so", of(api.Lease{Key: "k", Amount: most - 1}, api.Lease{Key: "k", Amount: 1}))
	a := loads(t, "two keys", of(api.Lease{Key: "k", Amount: most}, api.Lease{Key: "m", Amount: most}, api.Lease{Key: "n", Amount: 1}))
	isLent(t, a, "k", 0, most)
	isLent(t, a, "m", 0, most)
	cannot(t, "one more", of(api.Lease{Key: "k", Amount: most}, api.Lease{Key: "k", Amount: 1}))
	cannot(t, "one more, behind another key's", of(api.Lease{Key: "k", Amount: most}, api.Lease{Key: "m", Amount: 2}, api.Lease{Key: "k", Amount: 1}))
	cannot(t, "of the second key", of(api.Lease{Key: "k", Amount: 3}, api.Lease{Key: "m", Amount: most}, api.Lease{Key: "m", Amount: most}))
	// Of three, round once and more, the sum would be above nothing again.
	cannot(t, "three", of(api.Lease{Key: "k", Amount: most}, api.Lease{Key: "k", Amount: most}, api.Lease{Key: "k", Amount: most}))
}

// P13.4, P13.2: what is lent is not held against the budgets: there may be less by now, or none.
func TestLoadLentBeyond(t *testing.T) {
	a := New()
	sets(t, a, "k", 10, 0)
	sets(t, a, "m", 10, 0)
	lends(t, a, 1, "k", 10, 5, "1: 1 has 10 of k till 5")
	lends(t, a, 1, "m", 10, 5, "2: 1 has 10 of m till 5")
	sets(t, a, "k", 1, 10)
	sets(t, a, "m", 0, 10)
	loads(t, "lent beyond", partsOf(a))
}

// P13.5, R4: nothing of what is handed in is kept or changed, spare room included.
func TestLoadKeepsNothing(t *testing.T) {
	p := some()
	spareB, spareL := api.Budget{Key: "spare", Amount: 7}, api.Lease{ID: 99, Session: 9, Key: "spare", Amount: 7, Until: 999}
	p.b, p.l = append(p.b, spareB)[:2], append(p.l, spareL)[:3]
	b, l := slices.Clone(p.b[:3]), slices.Clone(p.l[:4])
	a := loads(t, "some", p)
	a.Set("z", 5)
	a.Set("k", 5)
	a.Renew(2, 5, 4000)
	a.Pass(50)
	a.Lend(1, "z", 1, 1)
	if !slices.Equal(p.b[:3], b) || !slices.Equal(p.l[:4], l) {
		t.Error("what was handed in is changed")
	}
	a = loads(t, "some", p)
	clear(p.b)
	clear(p.l)
	shows(t, "what was handed in is gone", a, someText)
}
