package quota

import (
	"scupper/api"
	"scupper/sum"
)

// farthest is the greatest Until that a lease may have: more than any table can give it, as no time is beyond the latest and no span beyond MaxTerm.
const farthest = 1 << 62

// Load makes it the table with this time, this last number, these budgets and these leases, or answers ErrForm, if none can be so.
func (t *Table) Load(time int64, last uint64, b []api.Budget, l []api.Lease) api.Errno {
	if t == nil {
		return api.ErrArg
	}
	if time < 0 || time > latest || !areBudgets(b) || !areLeases(time, last, l) {
		return api.ErrForm
	}
	budgets := make(map[string]int64, len(b))
	for _, x := range b {
		budgets[x.Key] = x.Amount
	}
	leases := make(map[uint64]api.Lease, len(l))
	for _, x := range l {
		leases[x.ID] = x
	}
	*t = Table{time: time, last: last, budgets: budgets, leases: leases}
	return api.OK
}

// areBudgets tells whether a table can have these budgets.
func areBudgets(list []api.Budget) bool {
	if len(list) > api.MaxKeys {
		return false
	}
	ahead := "" // less than any key that there may be
	for _, x := range list {
		if !isKey(x.Key) || x.Key <= ahead || x.Amount < 1 {
			return false
		}
		ahead = x.Key
	}
	return true
}

// areLeases tells whether a table of that time and that last number can have these leases. How much is lent of a key is not held against its budget: that may have been more, or there may have been one, when it was lent.
func areLeases(time int64, last uint64, list []api.Lease) bool {
	if len(list) > api.MaxLeases {
		return false
	}
	ahead := uint64(0)
	lent := make(map[string]int64, len(list))
	for _, x := range list {
		if x.ID <= ahead || x.ID > last || !isLease(x) || x.Until <= time || x.Until > farthest {
			return false
		}
		all, e := sum.Add(lent[x.Key], x.Amount)
		if e != api.OK {
			return false
		}
		ahead, lent[x.Key] = x.ID, all
	}
	return true
}

// isLease tells whether x could be a lease of some table at some time.
func isLease(x api.Lease) bool { return x.Session != 0 && isKey(x.Key) && x.Amount >= 1 }
