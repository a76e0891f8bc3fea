package quota

import (
	"math"
	"strconv"
	"strings"
	"testing"

	"scupper/api"
)

// top is the time that no table may come beyond.
const top = 1 << 61

// want holds an error against the one that must be.
func want(t *testing.T, what string, got, e api.Errno) {
	t.Helper()
	if got != e {
		t.Errorf("%s: %d; want %d", what, got, e)
	}
}

func decimal(n int64) string { return strconv.FormatInt(n, 10) }

// keyText is a key that can be read: long ones by their length.
func keyText(key string) string {
	if len(key) > 8 {
		return key[:1] + "*" + strconv.Itoa(len(key))
	}
	return key
}

// leaseText is a lease as "7: 2 has 5 of k till 100".
func leaseText(l api.Lease) string {
	return strconv.FormatUint(l.ID, 10) + ": " + strconv.FormatUint(l.Session, 10) + " has " + decimal(l.Amount) + " of " + keyText(l.Key) + " till " + decimal(l.Until)
}

// text is all that can be seen of a table, as "at 5, last 7; k 10; 7: 2 has 5 of k till 100".
func text(a *Table) string {
	out := "at " + decimal(a.Time()) + ", last " + strconv.FormatUint(a.Last(), 10)
	for _, b := range a.Budgets() {
		out += "; " + keyText(b.Key) + " " + decimal(b.Amount)
	}
	for _, l := range a.Leases() {
		out += "; " + leaseText(l)
	}
	return out
}

// shows holds all that can be seen of a table against text.
func shows(t *testing.T, what string, a *Table, all string) {
	t.Helper()
	if got := text(a); got != all {
		t.Errorf("%s: %q; want %q", what, got, all)
	}
}

// sets does a Set that must be OK, and holds what it tells.
func sets(t *testing.T, a *Table, key string, amount, lent int64) {
	t.Helper()
	if got, e := a.Set(key, amount); got != lent || e != api.OK {
		t.Fatalf("Set(%q, %d): %d, %d; want %d", keyText(key), amount, got, e, lent)
	}
}

// passes does a Pass that must be OK, and holds which numbers it tells, as "1 2".
func passes(t *testing.T, a *Table, n int64, numbers string) {
	t.Helper()
	gone, e := a.Pass(n)
	if got := numbersText(gone); got != numbers || e != api.OK {
		t.Fatalf("Pass(%d): %q, %d; want %q", n, got, e, numbers)
	}
}

func numbersText(list []uint64) string {
	var words []string
	for _, n := range list {
		words = append(words, strconv.FormatUint(n, 10))
	}
	return strings.Join(words, " ")
}

// tells holds a lease, and that the call was OK.
func tells(t *testing.T, what string, l api.Lease, e api.Errno, lease string) {
	t.Helper()
	if got := leaseText(l); got != lease || e != api.OK {
		t.Fatalf("%s: %q, %d; want %q", what, got, e, lease)
	}
}

// lends does a Lend that must be OK.
func lends(t *testing.T, a *Table, session uint64, key string, amount, span int64, lease string) {
	t.Helper()
	l, e := a.Lend(session, key, amount, span)
	tells(t, "Lend", l, e, lease)
}

// refuses holds an error, that no lease is told beside it, and that the table is as it was.
func refuses(t *testing.T, what string, a *Table, call func() (api.Lease, api.Errno), e api.Errno) {
	t.Helper()
	before := text(a)
	if l, got := call(); l != (api.Lease{}) || got != e {
		t.Errorf("%s: %v, %d; want %d", what, l, got, e)
	}
	shows(t, what, a, before)
}

func refusesLend(t *testing.T, a *Table, session uint64, key string, amount, span int64, e api.Errno) {
	t.Helper()
	what := "Lend(" + strconv.FormatUint(session, 10) + ", " + keyText(key) + ", " + decimal(amount) + ", " + decimal(span) + ")"
	refuses(t, what, a, func() (api.Lease, api.Errno) { return a.Lend(session, key, amount, span) }, e)
}

func refusesRenew(t *testing.T, a *Table, session, id uint64, span int64, e api.Errno) {
	t.Helper()
	what := "Renew(" + numbersText([]uint64{session, id}) + " " + decimal(span) + ")"
	refuses(t, what, a, func() (api.Lease, api.Errno) { return a.Renew(session, id, span) }, e)
}

func refusesBack(t *testing.T, a *Table, session, id uint64, e api.Errno) {
	t.Helper()
	refuses(t, "Back("+numbersText([]uint64{session, id})+")", a, func() (api.Lease, api.Errno) { return a.Back(session, id) }, e)
}

func refusesSet(t *testing.T, a *Table, key string, amount int64, e api.Errno) {
	t.Helper()
	before := text(a)
	if lent, got := a.Set(key, amount); lent != 0 || got != e {
		t.Errorf("Set(%q, %d): %d, %d; want %d", keyText(key), amount, lent, got, e)
	}
	shows(t, "Set refused", a, before)
}

func refusesPass(t *testing.T, a *Table, n int64, e api.Errno) {
	t.Helper()
	before := text(a)
	if gone, got := a.Pass(n); gone != nil || got != e {
		t.Errorf("Pass(%d): %v, %d; want %d", n, gone, got, e)
	}
	shows(t, "Pass refused", a, before)
}

// isLent holds what Lent tells.
func isLent(t *testing.T, a *Table, key string, budget, lent int64) {
	t.Helper()
	if b, l := a.Lent(key); b != budget || l != lent {
		t.Errorf("Lent(%q): %d, %d; want %d, %d", keyText(key), b, l, budget, lent)
	}
}

// loaded is a table with what is given.
func loaded(t *testing.T, time int64, last uint64, b []api.Budget, l []api.Lease) *Table {
	t.Helper()
	a := New()
	if e := a.Load(time, last, b, l); e != api.OK {
		t.Fatalf("Load: %d", e)
	}
	return a
}

// long is a key of n bytes.
func long(n int) string { return strings.Repeat("x", n) }

// badKeys are texts that are no key.
func badKeys() []string { return []string{"", long(api.MaxKey + 1), long(1000)} }

// badSpans are numbers that are no span.
func badSpans() []int64 {
	return []int64{math.MinInt64, -api.MaxTerm, -1, 0, api.MaxTerm + 1, 1 << 60, math.MaxInt64}
}

// The chapter's example.
func TestExample(t *testing.T) {
	a := New()
	sets(t, a, "k", 10, 0)
	lends(t, a, 1, "k", 6, 100, "1: 1 has 6 of k till 100")
	refusesLend(t, a, 2, "k", 5, 100, api.ErrQuota)
	sets(t, a, "k", 3, 6)
	refusesRenew(t, a, 1, 1, 9, api.ErrQuota)
	passes(t, a, 100, "1")
	shows(t, "at last", a, "at 100, last 1; k 3")
}

// The second example of the whole: behind its Release, there is room for the other lease.
func TestExampleOfTheWhole(t *testing.T) {
	a := New()
	sets(t, a, "k", 10, 0)
	lends(t, a, 1, "k", 6, 100, "1: 1 has 6 of k till 100")
	refusesLend(t, a, 2, "k", 5, 100, api.ErrQuota)
	l, e := a.Back(1, 1)
	tells(t, "Back", l, e, "1: 1 has 6 of k till 100")
	lends(t, a, 2, "k", 5, 100, "2: 2 has 5 of k till 100")
}

// P13.1: a new table has nothing; one that was not made by New neither, and both take everything.
func TestNew(t *testing.T) {
	for _, create := range []func() *Table{New, func() *Table { return new(Table) }} {
		a := create()
		shows(t, "New", a, "at 0, last 0")
		isLent(t, a, "k", 0, 0)
		isLent(t, a, "", 0, 0)
		passes(t, a, 0, "")
		refusesLend(t, a, 1, "k", 1, 1, api.ErrNone)
		refusesRenew(t, a, 1, 1, 1, api.ErrGone)
		refusesBack(t, a, 1, 1, api.ErrGone)
		shows(t, "its copy", a.Copy(), "at 0, last 0")
		sets(t, a, "k", 0, 0)
		sets(t, a.Copy(), "k", 5, 0)
		shows(t, "New", a, "at 0, last 0")
		sets(t, a, "k", 5, 0)
		lends(t, a, 1, "k", 5, 7, "1: 1 has 5 of k till 7")
		if e := create().Load(0, 0, nil, nil); e != api.OK {
			t.Errorf("Load: %d", e)
		}
	}
	a := new(Table)
	passes(t, a, 5, "")
	shows(t, "no table of New", a, "at 5, last 0")
	if a, b := New(), New(); a == b {
		t.Error("two tables are one")
	}
}

// P13.1: a lease is gone as soon as the time is its Until, not earlier; the numbers rise, whichever is over.
func TestPass(t *testing.T) {
	a := New()
	sets(t, a, "k", 100, 0)
	sets(t, a, "m", 100, 0)
	passes(t, a, 3, "")
	lends(t, a, 1, "k", 1, 20, "1: 1 has 1 of k till 23")
	lends(t, a, 1, "m", 2, 10, "2: 1 has 2 of m till 13")
	lends(t, a, 2, "k", 3, 11, "3: 2 has 3 of k till 14")
	lends(t, a, 3, "m", 4, 10, "4: 3 has 4 of m till 13")
	passes(t, a, 0, "")
	passes(t, a, 9, "")
	isLent(t, a, "m", 100, 6)
	passes(t, a, 1, "2 4")
	isLent(t, a, "m", 100, 0)
	isLent(t, a, "k", 100, 4)
	passes(t, a, 0, "")
	shows(t, "two are gone", a, "at 13, last 4; k 100; m 100; 1: 1 has 1 of k till 23; 3: 2 has 3 of k till 14")
	refusesRenew(t, a, 1, 2, 5, api.ErrGone)
	refusesBack(t, a, 3, 4, api.ErrGone)
	lends(t, a, 1, "k", 1, 1, "5: 1 has 1 of k till 14")
	passes(t, a, api.MaxTerm, "1 3 5")
	shows(t, "all are gone", a, "at 1099511627789, last 5; k 100; m 100")
}

// P13.1: the numbers of many that go at once rise.
func TestPassMany(t *testing.T) {
	a := New()
	sets(t, a, "k", 1000, 0)
	var odd, even []uint64
	for i := range uint64(api.MaxLeases) {
		// The odd ones are over first, and the latest of these first.
		span, list := 300-int64(i), &odd
		if i%2 == 1 {
			span, list = 1000+int64(i), &even
		}
		if _, e := a.Lend(i+1, "k", 1, span); e != api.OK {
			t.Fatalf("Lend: %d", e)
		}
		*list = append(*list, i+1)
	}
	passes(t, a, 999, numbersText(odd))
	isLent(t, a, "k", 1000, int64(len(even)))
	passes(t, a, 999, numbersText(even))
	isLent(t, a, "k", 1000, 0)
}

// P13.1: which steps there may be, and how far the time may go.
func TestPassRefused(t *testing.T) {
	a := New()
	sets(t, a, "k", 10, 0)
	lends(t, a, 1, "k", 1, 1, "1: 1 has 1 of k till 1")
	for _, n := range []int64{math.MinInt64, math.MinInt64 + 1, -api.MaxTerm, -1, api.MaxTerm + 1, top, 1<<62 + 5, math.MaxInt64} {
		refusesPass(t, a, n, api.ErrArg)
	}
	passes(t, a, api.MaxTerm, "1")
	if a.Time() != api.MaxTerm {
		t.Errorf("Time: %d", a.Time())
	}

	lease := []api.Lease{{ID: 1, Session: 1, Key: "k", Amount: 1, Until: top - 7}}
	a = loaded(t, top-9, 1, nil, lease)
	refusesPass(t, a, 10, api.ErrOver)
	refusesPass(t, a, api.MaxTerm, api.ErrOver)
	refusesPass(t, a, api.MaxTerm+1, api.ErrArg)
	refusesPass(t, a, -1, api.ErrArg)
	passes(t, a, 1, "")
	refusesPass(t, a, 9, api.ErrOver)
	passes(t, a, 8, "1")
	shows(t, "at the end", a, "at "+decimal(top)+", last 1")
	refusesPass(t, a, 1, api.ErrOver)
	passes(t, a, 0, "")
	sets(t, a, "k", 5, 0)
	lends(t, a, 1, "k", 5, api.MaxTerm, "2: 1 has 5 of k till "+decimal(top+api.MaxTerm))
}

// P13.2: the budget is what was set last; Set tells what is lent, which stays.
func TestSet(t *testing.T) {
	a := New()
	sets(t, a, "k", 10, 0)
	isLent(t, a, "k", 10, 0)
	sets(t, a, "k", math.MaxInt64, 0)
	isLent(t, a, "k", math.MaxInt64, 0)
	sets(t, a, "k", 12, 0)
	lends(t, a, 1, "k", 4, 100, "1: 1 has 4 of k till 100")
	lends(t, a, 2, "k", 5, 100, "2: 2 has 5 of k till 100")
	sets(t, a, "m", 7, 0)
	lends(t, a, 2, "m", 7, 100, "3: 2 has 7 of m till 100")
	sets(t, a, "k", 1, 9)
	isLent(t, a, "k", 1, 9)
	sets(t, a, "k", 0, 9)
	isLent(t, a, "k", 0, 9)
	isLent(t, a, "m", 7, 7)
	isLent(t, a, "n", 0, 0)
	const leases = "; 1: 1 has 4 of k till 100; 2: 2 has 5 of k till 100; 3: 2 has 7 of m till 100"
	shows(t, "k has none any more", a, "at 0, last 3; m 7"+leases)
	sets(t, a, "k", 0, 9)
	sets(t, a, "n", 0, 0)
	shows(t, "nor has n", a, "at 0, last 3; m 7"+leases)
	sets(t, a, "k", 20, 9)
	shows(t, "k has one again", a, "at 0, last 3; k 20; m 7"+leases)
}

// P13.2: which keys there are: any bytes, 1 to MaxKey.
func TestKeys(t *testing.T) {
	for _, key := range []string{"k", "\x00", "\xff", "\x00\x00", "a b", "é", "\n", long(2), long(api.MaxKey - 1), long(api.MaxKey)} {
		a := New()
		sets(t, a, key, 3, 0)
		isLent(t, a, key, 3, 0)
		l, e := a.Lend(1, key, 2, 5)
		if l != (api.Lease{ID: 1, Session: 1, Key: key, Amount: 2, Until: 5}) || e != api.OK {
			t.Errorf("Lend of %q: %v, %d", keyText(key), l, e)
		}
		isLent(t, a, key, 3, 2)
		isLent(t, a, key+"y", 0, 0)
		b, list := a.Budgets(), a.Leases()
		if len(b) != 1 || b[0] != (api.Budget{Key: key, Amount: 3}) || len(list) != 1 || list[0] != l {
			t.Errorf("%q: %v, %v", keyText(key), b, list)
		}
	}
	for _, key := range badKeys() {
		a := New()
		for _, amount := range []int64{math.MinInt64, -1, 0, 1, math.MaxInt64} {
			refusesSet(t, a, key, amount, api.ErrArg)
		}
		isLent(t, a, key, 0, 0)
	}
	a := New()
	sets(t, a, "k", 5, 0)
	for _, amount := range []int64{math.MinInt64, math.MinInt64 + 1, -5, -1} {
		refusesSet(t, a, "k", amount, api.ErrArg)
		refusesSet(t, a, "m", amount, api.ErrArg)
	}
}

// P13.2: MaxKeys keys may have a budget; any number may have leases alone.
func TestManyKeys(t *testing.T) {
	a := New()
	key := func(i int) string { return "key" + strconv.Itoa(i) }
	for i := range api.MaxKeys {
		sets(t, a, key(i), int64(i+1), 0)
		if len(a.Budgets()) != i+1 {
			t.Fatalf("%d budgets", len(a.Budgets()))
		}
	}
	refusesSet(t, a, "more", 1, api.ErrLarge)
	refusesSet(t, a, "more", math.MaxInt64, api.ErrLarge)
	refusesSet(t, a, "more", -1, api.ErrArg)
	refusesSet(t, a, "", 1, api.ErrArg)
	// None more comes by these.
	sets(t, a, "more", 0, 0)
	sets(t, a, key(7), 99, 0)
	lends(t, a, 1, key(7), 9, 10, "1: 1 has 9 of key7 till 10")
	sets(t, a, key(7), 0, 9)
	refusesLend(t, a, 1, key(7), 1, 1, api.ErrNone)
	sets(t, a, "more", 5, 0)
	refusesSet(t, a, key(7), 1, api.ErrLarge)
	isLent(t, a, key(7), 0, 9)
	lends(t, a, 1, "more", 5, 10, "2: 1 has 5 of more till 10")
	sets(t, a, key(8), 0, 0)
	sets(t, a, key(7), 1, 9)
	if len(a.Budgets()) != api.MaxKeys {
		t.Errorf("%d budgets", len(a.Budgets()))
	}
}

// P13.3: a lease has the next number, and lives up to the time and its span.
func TestLend(t *testing.T) {
	a := New()
	sets(t, a, "k", 10, 0)
	sets(t, a, "m", math.MaxInt64, 0)
	lends(t, a, 1, "k", 1, 1, "1: 1 has 1 of k till 1")
	passes(t, a, 1, "1")
	lends(t, a, math.MaxUint64, "k", 9, api.MaxTerm, "2: 18446744073709551615 has 9 of k till 1099511627777")
	// One session may have many, of one key too.
	lends(t, a, math.MaxUint64, "k", 1, 5, "3: 18446744073709551615 has 1 of k till 6")
	refusesLend(t, a, 1, "k", 1, 5, api.ErrQuota)
	// Each key has what is lent of itself alone.
	lends(t, a, 1, "m", math.MaxInt64-1, 5, "4: 1 has 9223372036854775806 of m till 6")
	lends(t, a, 1, "m", 1, 5, "5: 1 has 1 of m till 6")
	isLent(t, a, "k", 10, 10)
	isLent(t, a, "m", math.MaxInt64, math.MaxInt64)
	// What is gone makes room, but its number is nobody's any more.
	passes(t, a, 5, "3 4 5")
	lends(t, a, 1, "k", 1, 7, "6: 1 has 1 of k till 13")
	l, e := a.Back(1, 6)
	tells(t, "Back", l, e, "6: 1 has 1 of k till 13")
	if a.Last() != 6 {
		t.Errorf("Last: %d", a.Last())
	}
	lends(t, a, 1, "k", 1, 7, "7: 1 has 1 of k till 13")
}

// P13.3: what may not be asked for.
func TestLendArgs(t *testing.T) {
	a := New()
	sets(t, a, "k", 10, 0)
	refusesLend(t, a, 0, "k", 1, 1, api.ErrArg)
	for _, key := range badKeys() {
		refusesLend(t, a, 1, key, 1, 1, api.ErrArg)
	}
	for _, amount := range []int64{math.MinInt64, -1, 0} {
		refusesLend(t, a, 1, "k", amount, 1, api.ErrArg)
		refusesLend(t, a, 1, "none", amount, 1, api.ErrArg)
	}
	for _, span := range badSpans() {
		refusesLend(t, a, 1, "k", 1, span, api.ErrArg)
		refusesLend(t, a, 1, "none", 1, span, api.ErrArg)
		refusesLend(t, a, 1, "k", 11, span, api.ErrArg)
	}
	refusesLend(t, a, 1, "none", 1, 1, api.ErrNone)
	refusesLend(t, a, 1, "none", math.MaxInt64, api.MaxTerm, api.ErrNone)
	refusesLend(t, a, 1, "k", 11, 1, api.ErrQuota)
	refusesLend(t, a, 1, "k", math.MaxInt64, 1, api.ErrQuota)
	lends(t, a, 1, "k", 10, 1, "1: 1 has 10 of k till 1")
}

// P13.3: the first error that applies, where several do.
func TestLendOrder(t *testing.T) {
	a := New()
	sets(t, a, "k", 10, 0)
	sets(t, a, "m", math.MaxInt64, 0)
	lends(t, a, 1, "k", 3, 100, "1: 1 has 3 of k till 100")
	refusesLend(t, a, 1, "k", math.MaxInt64-3, 1, api.ErrQuota)
	refusesLend(t, a, 1, "k", math.MaxInt64-2, 1, api.ErrOver)
	refusesLend(t, a, 1, "k", math.MaxInt64, 1, api.ErrOver)
	for a.Last() < api.MaxLeases {
		if _, e := a.Lend(2, "m", 1, 100); e != api.OK {
			t.Fatalf("Lend: %d", e)
		}
	}
	refusesLend(t, a, 1, "k", 7, 1, api.ErrLarge)
	refusesLend(t, a, 1, "k", 8, 1, api.ErrQuota)
	refusesLend(t, a, 1, "k", math.MaxInt64, 1, api.ErrOver)
	refusesLend(t, a, 1, "none", math.MaxInt64, 1, api.ErrNone)
	refusesLend(t, a, 0, "none", math.MaxInt64, 1, api.ErrArg)
	refusesLend(t, a, 1, "k", 7, 0, api.ErrArg)
	// Without a budget, it is none, whatever is lent still.
	sets(t, a, "k", 0, 3)
	refusesLend(t, a, 1, "k", math.MaxInt64, 1, api.ErrNone)
	refusesLend(t, a, 1, "k", 1, 1, api.ErrNone)
}

// P13.3: MaxLeases leases may live at once.
func TestManyLeases(t *testing.T) {
	a := New()
	sets(t, a, "k", 1000, 0)
	sets(t, a, "m", 1000, 0)
	for i := range uint64(api.MaxLeases) {
		key := "k"
		if i%2 == 1 {
			key = "m"
		}
		l, e := a.Lend(1+i%3, key, 1, 10+int64(i))
		if l.ID != i+1 || e != api.OK {
			t.Fatalf("Lend: %d, %d", l.ID, e)
		}
	}
	refusesLend(t, a, 1, "k", 1, 1, api.ErrLarge)
	refusesLend(t, a, 9, "m", 1, 1, api.ErrLarge)
	// One that lives can be renewed all the same.
	l, e := a.Renew(1, 1, 500)
	tells(t, "Renew", l, e, "1: 1 has 1 of k till 500")
	l, e = a.Back(2, 2)
	tells(t, "Back", l, e, "2: 2 has 1 of m till 11")
	lends(t, a, 9, "m", 1, 99, "129: 9 has 1 of m till 99")
	refusesLend(t, a, 9, "m", 1, 99, api.ErrLarge)
	passes(t, a, 13, "3 4")
	lends(t, a, 9, "m", 1, 99, "130: 9 has 1 of m till 112")
	lends(t, a, 9, "k", 1, 99, "131: 9 has 1 of k till 112")
	refusesLend(t, a, 9, "m", 1, 99, api.ErrLarge)
	isLent(t, a, "k", 1000, 64)
	isLent(t, a, "m", 1000, 64)
}

// P13.3: a lease lives for the span from now on, or as long as it did.
func TestRenew(t *testing.T) {
	a := New()
	sets(t, a, "k", 10, 0)
	lends(t, a, 1, "k", 6, 100, "1: 1 has 6 of k till 100")
	lends(t, a, 2, "k", 4, 50, "2: 2 has 4 of k till 50")
	renew := func(session, id uint64, span int64, lease string) {
		t.Helper()
		l, e := a.Renew(session, id, span)
		tells(t, "Renew", l, e, lease)
	}
	// All that there is is lent: that is not above the budget.
	renew(1, 1, 100, "1: 1 has 6 of k till 100")
	renew(1, 1, 101, "1: 1 has 6 of k till 101")
	renew(1, 1, 99, "1: 1 has 6 of k till 101")
	renew(1, 1, 1, "1: 1 has 6 of k till 101")
	passes(t, a, 40, "")
	renew(1, 1, 61, "1: 1 has 6 of k till 101")
	renew(2, 2, 11, "2: 2 has 4 of k till 51")
	renew(1, 1, 62, "1: 1 has 6 of k till 102")
	shows(t, "renewed", a, "at 40, last 2; k 10; 1: 1 has 6 of k till 102; 2: 2 has 4 of k till 51")
	passes(t, a, 10, "")
	passes(t, a, 1, "2")
	refusesRenew(t, a, 2, 2, 9, api.ErrGone)
	renew(1, 1, api.MaxTerm, "1: 1 has 6 of k till 1099511627827")
	shows(t, "the longest", a, "at 51, last 2; k 10; 1: 1 has 6 of k till 1099511627827")
	// Who came from elsewhere may live longer than any span.
	a = loaded(t, 5, 3, []api.Budget{{Key: "k", Amount: 9}}, []api.Lease{{ID: 3, Session: 2, Key: "k", Amount: 9, Until: 1 << 62}})
	renew(2, 3, api.MaxTerm, "3: 2 has 9 of k till 4611686018427387904")
}

// P13.3: whose lease it is not, and what may not be asked for.
func TestRenewRefused(t *testing.T) {
	a := New()
	sets(t, a, "k", 10, 0)
	lends(t, a, 1, "k", 6, 100, "1: 1 has 6 of k till 100")
	lends(t, a, 2, "k", 4, 100, "2: 2 has 4 of k till 100")
	for _, span := range badSpans() {
		refusesRenew(t, a, 1, 1, span, api.ErrArg)
		refusesRenew(t, a, 1, 9, span, api.ErrArg)
		refusesRenew(t, a, 0, 0, span, api.ErrArg)
	}
	for _, c := range [][2]uint64{{1, 2}, {2, 1}, {3, 1}, {0, 1}, {0, 0}, {1, 0}, {0, 3}, {1, 3}, {1, math.MaxUint64}, {math.MaxUint64, 1}} {
		refusesRenew(t, a, c[0], c[1], 200, api.ErrGone)
		refusesBack(t, a, c[0], c[1], api.ErrGone)
	}
	// More is lent than the budget: nobody of that key may go on, whoever asks.
	sets(t, a, "k", 9, 10)
	sets(t, a, "m", 1, 0)
	lends(t, a, 1, "m", 1, 100, "3: 1 has 1 of m till 100")
	refusesRenew(t, a, 1, 1, 200, api.ErrQuota)
	refusesRenew(t, a, 2, 2, 200, api.ErrQuota)
	refusesRenew(t, a, 2, 2, 1, api.ErrQuota)
	refusesRenew(t, a, 2, 1, 200, api.ErrGone)
	refusesRenew(t, a, 2, 2, 0, api.ErrArg)
	l, e := a.Renew(1, 3, 200)
	tells(t, "Renew of another key", l, e, "3: 1 has 1 of m till 200")
	sets(t, a, "k", 0, 10)
	refusesRenew(t, a, 1, 1, 200, api.ErrQuota)
	// As much as the budget is not more.
	sets(t, a, "k", 6, 10)
	l, e = a.Back(2, 2)
	tells(t, "Back", l, e, "2: 2 has 4 of k till 100")
	l, e = a.Renew(1, 1, 200)
	tells(t, "Renew", l, e, "1: 1 has 6 of k till 200")
}

// P13.3: what is given back is gone, and tells what it was.
func TestBack(t *testing.T) {
	a := New()
	sets(t, a, "k", 10, 0)
	for _, lease := range []string{"1: 5 has 2 of k till 100", "2: 5 has 2 of k till 100", "3: 5 has 2 of k till 100"} {
		lends(t, a, 5, "k", 2, 100, lease)
	}
	passes(t, a, 99, "")
	sets(t, a, "k", 1, 6)
	l, e := a.Back(5, 2)
	tells(t, "Back, though more is lent than the budget", l, e, "2: 5 has 2 of k till 100")
	refusesBack(t, a, 5, 2, api.ErrGone)
	refusesRenew(t, a, 5, 2, 7, api.ErrGone)
	shows(t, "one is gone", a, "at 99, last 3; k 1; 1: 5 has 2 of k till 100; 3: 5 has 2 of k till 100")
	sets(t, a, "k", 0, 4)
	l, e = a.Back(5, 1)
	tells(t, "Back, though there is no budget", l, e, "1: 5 has 2 of k till 100")
	passes(t, a, 1, "3")
	refusesBack(t, a, 5, 3, api.ErrGone)
	refusesBack(t, a, 5, 4, api.ErrGone)
	shows(t, "all are gone", a, "at 100, last 3")
}

// P13.3: behind the greatest number there is no next one.
func TestLastNumber(t *testing.T) {
	lease := []api.Lease{{ID: 1, Session: 1, Key: "k", Amount: 1, Until: 50}}
	a := loaded(t, 0, math.MaxUint64-1, []api.Budget{{Key: "k", Amount: 10}}, lease)
	lends(t, a, 2, "k", 2, 50, "18446744073709551615: 2 has 2 of k till 50")
	refusesLend(t, a, 2, "k", 2, 50, api.ErrLarge)
	refusesLend(t, a, 2, "k", 8, 50, api.ErrQuota)
	passes(t, a, 50, "1 18446744073709551615")
	refusesLend(t, a, 2, "k", 2, 50, api.ErrLarge)
	shows(t, "at the end", a, "at 50, last 18446744073709551615; k 10")
}

// P13.4: what Lent tells of what is no key, or has nothing.
func TestLent(t *testing.T) {
	a := New()
	sets(t, a, long(api.MaxKey), 5, 0)
	lends(t, a, 1, long(api.MaxKey), 5, 5, "1: 1 has 5 of x*64 till 5")
	for _, key := range append(badKeys(), "x", long(api.MaxKey-1), "\x00") {
		isLent(t, a, key, 0, 0)
	}
	isLent(t, a, long(api.MaxKey), 5, 5)
}

// P13.4: budgets come by rising keys, byte by byte.
func TestBudgetsRise(t *testing.T) {
	a := New()
	for i, key := range []string{"b", "a", "ab", "\xff", "B", "\x00", "aa", "é", "a\x00", "z"} {
		sets(t, a, key, int64(i+1), 0)
	}
	shows(t, "by keys", a, "at 0, last 0; \x00 6; B 5; a 2; a\x00 9; aa 7; ab 3; b 1; z 10; é 8; \xff 4")
}

// P13.4: leases come by rising numbers, as numbers: 9 ahead of 10.
func TestLeasesRise(t *testing.T) {
	a := New()
	sets(t, a, "k", 1000, 0)
	for i := range 100 {
		if _, e := a.Lend(uint64(200-i), "k", int64(1+i%3), int64(1+(i*37)%100)); e != api.OK {
			t.Fatalf("Lend: %d", e)
		}
	}
	for range 100 {
		list := a.Leases()
		for i := range list[1:] {
			if list[i].ID >= list[i+1].ID {
				t.Fatalf("%d stands ahead of %d", list[i].ID, list[i+1].ID)
			}
		}
	}
	if len(a.Leases()) != 100 {
		t.Errorf("%d leases", len(a.Leases()))
	}
}

// P13.5: a nil table.
func TestNil(t *testing.T) {
	var a *Table
	refusesPass(t, a, 0, api.ErrArg)
	refusesPass(t, a, -1, api.ErrArg)
	refusesSet(t, a, "k", 0, api.ErrArg)
	refusesSet(t, a, "k", 1, api.ErrArg)
	refusesLend(t, a, 1, "k", 1, 1, api.ErrArg)
	refusesRenew(t, a, 1, 1, 1, api.ErrArg)
	refusesBack(t, a, 1, 1, api.ErrArg)
	isLent(t, a, "k", 0, 0)
	want(t, "Load", a.Load(0, 0, nil, nil), api.ErrArg)
	want(t, "Load", a.Load(-1, 0, nil, nil), api.ErrArg)
	if a.Time() != 0 || a.Last() != 0 || a.Budgets() != nil || a.Leases() != nil || a.Copy() != nil {
		t.Error("a nil table has something")
	}
}

// P13.5: a copy does the same, and neither hears of what is done to the other.
func TestCopy(t *testing.T) {
	a := New()
	sets(t, a, "k", 10, 0)
	sets(t, a, "m", 5, 0)
	lends(t, a, 1, "k", 3, 40, "1: 1 has 3 of k till 40")
	lends(t, a, 2, "m", 4, 50, "2: 2 has 4 of m till 50")
	passes(t, a, 7, "")
	const all = "at 7, last 2; k 10; m 5; 1: 1 has 3 of k till 40; 2: 2 has 4 of m till 50"
	for _, do := range []func(a *Table){
		func(a *Table) { a.Pass(3) },
		func(a *Table) { a.Pass(100) },
		func(a *Table) { a.Set("k", 3) },
		func(a *Table) { a.Set("k", 0) },
		func(a *Table) { a.Set("n", 3) },
		func(a *Table) { a.Lend(3, "k", 1, 1) },
		func(a *Table) { a.Renew(1, 1, 99) },
		func(a *Table) { a.Back(2, 2) },
		func(a *Table) { a.Load(9, 9, nil, nil) },
	} {
		copied := a.Copy()
		shows(t, "a copy", copied, all)
		again := copied.Copy()
		do(copied)
		if text(copied) == all {
			t.Error("nothing was done")
		}
		shows(t, "what was copied", a, all)
		do(again)
		shows(t, "a copy of a copy", again, text(copied))
	}
}

// P13.5, R4: what is answered is nobody else's.
func TestNothingShared(t *testing.T) {
	a := New()
	sets(t, a, "k", 10, 0)
	sets(t, a, "m", 5, 0)
	lends(t, a, 1, "k", 3, 40, "1: 1 has 3 of k till 40")
	lends(t, a, 2, "m", 4, 50, "2: 2 has 4 of m till 50")
	before := text(a)
	b, l := a.Budgets(), a.Leases()
	b2, l2 := a.Budgets(), a.Leases()
	b[0], b[1], l[0], l[1] = api.Budget{}, api.Budget{}, api.Lease{}, api.Lease{}
	_, _ = append(b[:0], api.Budget{Key: "z"}), append(l[:0], api.Lease{ID: 9})
	shows(t, "answers were changed", a, before)
	if b2[0] != (api.Budget{Key: "k", Amount: 10}) || l2[0].ID != 1 || l2[1].ID != 2 {
		t.Error("two answers share something")
	}
	copied := a.Copy()
	one, _ := a.Pass(99)
	two, _ := copied.Pass(99)
	one[0] = 77
	if two[0] != 1 {
		t.Error("two answers share something")
	}
	shows(t, "an answer of Pass was changed", a, "at 99, last 2; k 10; m 5")
}
