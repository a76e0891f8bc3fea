package quota

import (
	"math"
	"math/big"
	"math/rand"
	"slices"
	"sort"
	"strconv"
	"testing"

	"scupper/api"
)

// model is a table as the chapter tells it: lists in the order in which things came, and sums that can't be too large.
type model struct {
	time    int64
	last    uint64
	budgets []api.Budget
	leases  []api.Lease
}

func (m *model) copied() *model {
	return &model{m.time, m.last, slices.Clone(m.budgets), slices.Clone(m.leases)}
}

func (m *model) at(key string) int {
	return slices.IndexFunc(m.budgets, func(b api.Budget) bool { return b.Key == key })
}

func (m *model) lent(key string) *big.Int {
	all := new(big.Int)
	for _, l := range m.leases {
		if l.Key == key {
			all.Add(all, big.NewInt(l.Amount))
		}
	}
	return all
}

func (m *model) budget(key string) *big.Int {
	if i := m.at(key); i >= 0 {
		return big.NewInt(m.budgets[i].Amount)
	}
	return new(big.Int)
}

func (m *model) pass(n int64) ([]uint64, api.Errno) {
	if n < 0 || n > 1<<40 {
		return nil, api.ErrArg
	}
	if m.time+n > top {
		return nil, api.ErrOver
	}
	m.time += n
	var gone []uint64
	var left []api.Lease
	for _, l := range m.leases {
		if l.Until > m.time {
			left = append(left, l)
		} else {
			gone = append(gone, l.ID)
		}
	}
	m.leases = left
	sort.Slice(gone, func(i, k int) bool { return gone[i] < gone[k] })
	return gone, api.OK
}

func badKey(key string) bool { return key == "" || len(key) > 64 }

func badSpan(span int64) bool { return span < 1 || span > 1<<40 }

func (m *model) set(key string, amount int64) (int64, api.Errno) {
	if badKey(key) || amount < 0 {
		return 0, api.ErrArg
	}
	i := m.at(key)
	switch {
	case i >= 0 && amount == 0:
		m.budgets = slices.Concat(m.budgets[:i], m.budgets[i+1:])
	case i >= 0:
		m.budgets[i].Amount = amount
	case amount > 0 && len(m.budgets) == 64:
		return 0, api.ErrLarge
	case amount > 0:
		m.budgets = append(m.budgets, api.Budget{Key: key, Amount: amount})
	}
	return m.lent(key).Int64(), api.OK
}

func (m *model) lend(session uint64, key string, amount, span int64) (api.Lease, api.Errno) {
	all := new(big.Int).Add(m.lent(key), big.NewInt(amount))
	switch {
	case session == 0, badKey(key), amount < 1, badSpan(span):
		return api.Lease{}, api.ErrArg
	case m.at(key) < 0:
		return api.Lease{}, api.ErrNone
	case !all.IsInt64():
		return api.Lease{}, api.ErrOver
	case all.Cmp(m.budget(key)) > 0:
		return api.Lease{}, api.ErrQuota
	case len(m.leases) == 128:
		return api.Lease{}, api.ErrLarge
	}
	m.last++
	l := api.Lease{ID: m.last, Session: session, Key: key, Amount: amount, Until: m.time + span}
	m.leases = append(m.leases, l)
	return l, api.OK
}

func (m *model) find(session, id uint64) int {
	return slices.IndexFunc(m.leases, func(l api.Lease) bool { return l.ID == id && l.Session == session })
}

func (m *model) renew(session, id uint64, span int64) (api.Lease, api.Errno) {
	if badSpan(span) {
		return api.Lease{}, api.ErrArg
	}
	i := m.find(session, id)
	if i < 0 {
		return api.Lease{}, api.ErrGone
	}
	l := &m.leases[i]
	if m.lent(l.Key).Cmp(m.budget(l.Key)) > 0 {
		return api.Lease{}, api.ErrQuota
	}
	if m.time+span > l.Until {
		l.Until = m.time + span
	}
	return *l, api.OK
}

func (m *model) back(session, id uint64) (api.Lease, api.Errno) {
	i := m.find(session, id)
	if i < 0 {
		return api.Lease{}, api.ErrGone
	}
	l := m.leases[i]
	m.leases = slices.Concat(m.leases[:i], m.leases[i+1:])
	return l, api.OK
}

// text is as that of a table.
func (m *model) text() string {
	out := "at " + decimal(m.time) + ", last " + strconv.FormatUint(m.last, 10)
	budgets := slices.Clone(m.budgets)
	sort.Slice(budgets, func(i, k int) bool { return budgets[i].Key < budgets[k].Key })
	for _, b := range budgets {
		out += "; " + keyText(b.Key) + " " + decimal(b.Amount)
	}
	for _, l := range m.leases { // they came by rising numbers
		out += "; " + leaseText(l)
	}
	return out
}

// pair is a table and its model.
type pair struct {
	a *Table
	m *model
}

func (x pair) copied() pair { return pair{x.a.Copy(), x.m.copied()} }

// ranges are what is drawn from in one run.
type ranges struct {
	keys   int   // so many keys
	amount int64 // no greater ones, but seldom
	span   int64
	// Of a hundred calls so many are Pass, Set, Renew, Back; all others Lend.
	passes, sets, renews, backs int
}

func anyRanges(r *rand.Rand) ranges {
	g := ranges{
		keys:   []int{1, 2, 4, 70}[r.Intn(4)],
		amount: []int64{3, 20, 1000, math.MaxInt64}[r.Intn(4)],
		span:   []int64{3, 40, 1000, api.MaxTerm}[r.Intn(4)],
		passes: 12, sets: 8, renews: 15, backs: 15,
	}
	switch r.Intn(4) {
	case 0: // leases become many
		g.keys, g.amount, g.span, g.passes, g.renews, g.backs = 12, 3, 1000, 1, 5, 5
	case 1: // budgets become many
		g.keys, g.sets = 90, 70
	}
	return g
}

func (g ranges) anyKey(r *rand.Rand) string {
	if r.Intn(60) == 0 {
		return badKeys()[r.Intn(3)]
	}
	return "k" + strconv.Itoa(r.Intn(g.keys))
}

func anyOf(r *rand.Rand, most int64) int64 {
	if r.Intn(40) == 0 {
		return []int64{math.MinInt64, -1, 0, most + 1, api.MaxTerm, api.MaxTerm + 1, math.MaxInt64}[r.Intn(7)]
	}
	return 1 + r.Int63n(most)
}

func anySession(r *rand.Rand) uint64 {
	if r.Intn(40) == 0 {
		return 0
	}
	return uint64(1 + r.Intn(3))
}

// anyLease is a session and a number, mostly of a lease that lives.
func (x pair) anyLease(r *rand.Rand) (session, id uint64) {
	if n := len(x.m.leases); n > 0 && r.Intn(5) > 0 {
		l := x.m.leases[r.Intn(n)]
		return l.Session, l.ID
	}
	return anySession(r), uint64(r.Int63n(int64(x.m.last) + 3))
}

// answer is what a call answers, as text.
func answer(what string, e api.Errno) string { return what + " " + strconv.Itoa(int(e)) }

func leaseAnswer(l api.Lease, e api.Errno) string { return answer(leaseText(l), e) }

func numbersAnswer(list []uint64, e api.Errno) string { return answer(numbersText(list), e) }

func lentAnswer(n int64, e api.Errno) string { return answer(decimal(n), e) }

// step does a step to both, and answers what they answer.
func (x pair) step(r *rand.Rand, g ranges) (what, got, text string) {
	key, amount, span, session := g.anyKey(r), anyOf(r, g.amount), anyOf(r, g.span), anySession(r)
	owner, id := x.anyLease(r)
	k := r.Intn(100)
	is := func(of int) bool { // by parts of the hundred, one behind the other
		k -= of
		return k < 0
	}
	switch {
	case is(g.passes):
		n := anyOf(r, g.span/8+1)
		return "Pass " + decimal(n), numbersAnswer(x.a.Pass(n)), numbersAnswer(x.m.pass(n))
	case is(g.sets):
		amount = min(amount, math.MaxInt64/20) * int64(r.Intn(20))
		return "Set " + keyText(key) + " " + decimal(amount), lentAnswer(x.a.Set(key, amount)), lentAnswer(x.m.set(key, amount))
	case is(g.renews):
		return "Renew " + numbersText([]uint64{owner, id}), leaseAnswer(x.a.Renew(owner, id, span)), leaseAnswer(x.m.renew(owner, id, span))
	case is(g.backs):
		return "Back " + numbersText([]uint64{owner, id}), leaseAnswer(x.a.Back(owner, id)), leaseAnswer(x.m.back(owner, id))
	}
	return "Lend " + keyText(key) + " " + decimal(amount), leaseAnswer(x.a.Lend(session, key, amount, span)), leaseAnswer(x.m.lend(session, key, amount, span))
}

// same holds all that can be seen of the table against the model.
func (x pair) same(t *testing.T, what string, g ranges) {
	t.Helper()
	if got := text(x.a); got != x.m.text() {
		t.Fatalf("%s: %q; want %q", what, got, x.m.text())
	}
	for i := range g.keys {
		key := "k" + strconv.Itoa(i)
		isLent(t, x.a, key, x.m.budget(key).Int64(), x.m.lent(key).Int64())
	}
}

// P13.1 to P13.5: any calls in any order, some of them to copies, and to what was Loaded of what a table tells, while what was copied stays as it is.
func TestAgainstModel(t *testing.T) {
	var seen [api.ErrOrder + 1]int
	for seed := range int64(120) {
		r := rand.New(rand.NewSource(seed))
		g := anyRanges(r)
		x := pair{New(), &model{}}
		if seed%5 == 0 {
			x.a, x.m.time = loaded(t, top-3*g.span, 0, nil, nil), top-3*g.span
		}
		left := x.copied()
		for i := range 400 {
			if r.Intn(40) == 0 {
				left.same(t, "what was copied", g)
				left, x = x, x.copied()
			}
			if r.Intn(40) == 0 {
				x.a = loads(t, "what a table tells", partsOf(x.a))
			}
			what, got, text := x.step(r, g)
			what = "seed " + strconv.FormatInt(seed, 10) + ", step " + strconv.Itoa(i) + ": " + what
			if got != text {
				t.Fatalf("%s: %q; want %q", what, got, text)
			}
			x.same(t, what, g)
			seen[errnoOf(text)]++
		}
	}
	for _, e := range []api.Errno{api.OK, api.ErrArg, api.ErrOver, api.ErrLarge, api.ErrNone, api.ErrQuota, api.ErrGone} {
		if seen[e] < 200 {
			t.Errorf("the error %d came %d times alone", e, seen[e])
		}
	}
}

func errnoOf(answer string) int {
	for i := len(answer) - 1; ; i-- {
		if answer[i] == ' ' {
			e, _ := strconv.Atoi(answer[i+1:])
			return e
		}
	}
}

// moment is what there was of a key behind a step.
type moment struct{ time, budget int64 }

// past is what there was of one key.
type past struct {
	moments []moment
	touched map[uint64]int // by a lease's number the place in moments at which it was lent or renewed last
}

// greatest is the greatest budget since a place.
func (p past) greatest(from int) int64 {
	most := int64(0)
	for _, m := range p.moments[from:] {
		most = max(most, m.budget)
	}
	return most
}

// behind is the first place whose budget stood at a time, or began later.
func (p past) behind(time int64) int {
	return sort.Search(len(p.moments), func(i int) bool { return i+1 == len(p.moments) || p.moments[i+1].time > time })
}

// holds holds what is lent of a key against the budgets that it had.
func (p past) holds(t *testing.T, a *Table, key string) {
	t.Helper()
	_, lent := a.Lent(key)
	last := -1
	for _, l := range a.Leases() {
		if l.Key == key {
			last = max(last, p.touched[l.ID])
		}
	}
	if last >= 0 && lent > p.greatest(last) {
		t.Fatalf("%d of %s is lent; since place %d no budget was above %d", lent, key, last, p.greatest(last))
	}
	if most := p.greatest(p.behind(a.Time() - api.MaxTerm)); lent > most {
		t.Fatalf("%d of %s is lent; since the time was MaxTerm less no budget was above %d", lent, key, most)
	}
}

// What follows: what is lent of a key is never above the greatest budget that it had since the last lease of those that live was lent or renewed, and so since the time was MaxTerm less.
func TestNeverLentBeyond(t *testing.T) {
	for seed := range int64(60) {
		r := rand.New(rand.NewSource(seed))
		a, keys := New(), []string{"k", "m"}
		pasts := map[string]*past{"k": {touched: map[uint64]int{}}, "m": {touched: map[uint64]int{}}}
		for range 600 {
			key := keys[r.Intn(2)]
			var l api.Lease
			switch span := 1 + r.Int63n(1<<(30+r.Intn(11))); r.Intn(8) {
			case 0:
				a.Set(key, r.Int63n(40))
			case 1:
				a.Pass(span)
			case 2, 3, 4:
				l, _ = a.Lend(1, key, 1+r.Int63n(12), span)
			case 5, 6:
				l, _ = a.Renew(1, a.Last()-uint64(r.Int63n(8)), span)
			case 7:
				a.Back(1, a.Last()-uint64(r.Int63n(8)))
			}
			for _, key := range keys {
				p := pasts[key]
				budget, _ := a.Lent(key)
				p.moments = append(p.moments, moment{a.Time(), budget})
				if l.Key == key {
					p.touched[l.ID] = len(p.moments) - 1
				}
				p.holds(t, a, key)
			}
		}
	}
}

// R5: the same calls, done again from the beginning, have the same answers.
func TestAgain(t *testing.T) {
	run := func() string {
		r := rand.New(rand.NewSource(5))
		g := ranges{keys: 30, amount: 5, span: 100, passes: 10, sets: 20, renews: 10, backs: 10}
		x := pair{New(), &model{}}
		out := ""
		for range 600 {
			what, got, _ := x.step(r, g)
			out += what + got + text(x.a)
		}
		return out
	}
	if run() != run() {
		t.Error("not the same again")
	}
}
