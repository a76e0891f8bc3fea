package rlog

import (
	"math"
	"slices"
	"strings"
	"testing"

	"scupper/api"
)

// appends holds an Append against what it must answer.
func appends(t *testing.T, l *Log, index, term uint64, list []api.Entry, last, from uint64, e api.Errno) {
	t.Helper()
	gotLast, gotFrom, got := l.Append(index, term, list...)
	if gotLast != last || gotFrom != from || got != e {
		t.Errorf("Append of %q at %s: %d, %d, %d; want %d, %d, %d", words(list), pair(index, term), gotLast, gotFrom, got, last, from, e)
	}
}

// P11.3: what comes of each list, at each place where it may come.
func TestAppend(t *testing.T) {
	const two, four = "6/2=6/2 7/2=7/2", "6/2=6/2 7/2=7/2 8/4=8/4 9/4=9/4"
	for _, x := range []struct {
		index, term uint64
		terms       []uint64
		last, from  uint64
		want        string
	}{
		// No entries, at any place of the log.
		{5, 2, nil, 5, 0, someText}, {7, 2, nil, 7, 0, someText}, {10, 7, nil, 10, 0, someText},
		// Behind the last.
		{10, 7, []uint64{7}, 11, 11, someText + " 11/7=11/7"},
		{10, 7, []uint64{8, 9}, 12, 11, someText + " 11/8=11/8 12/9=12/9"},
		// All is there: it stays, and what is behind it too.
		{5, 2, []uint64{2}, 6, 0, someText}, {7, 2, []uint64{4, 4}, 9, 0, someText},
		{5, 2, []uint64{2, 2, 4, 4, 7}, 10, 0, someText}, {9, 4, []uint64{7}, 10, 0, someText},
		// Some is there, the rest comes.
		{5, 2, []uint64{2, 2, 4, 4, 7, 7}, 11, 11, someText + " 11/7=11/7"},
		{9, 4, []uint64{7, 9}, 11, 11, someText + " 11/9=11/9"},
		// The first that is another one takes all behind it away.
		{5, 2, []uint64{3}, 6, 6, "5/2: 6/3=6/3"}, {5, 2, []uint64{2, 3}, 7, 7, "5/2: 6/2=6/2 7/3=7/3"},
		{7, 2, []uint64{3}, 8, 8, "5/2: " + two + " 8/3=8/3"},
		{7, 2, []uint64{2, 4, 7}, 10, 8, "5/2: " + two + " 8/2=8/2 9/4=9/4 10/7=10/7"},
		{9, 4, []uint64{8}, 10, 10, "5/2: " + four + " 10/8=10/8"},
		{9, 4, []uint64{4}, 10, 10, "5/2: " + four + " 10/4=10/4"},
		{8, 4, []uint64{4, 9, 9, 9}, 12, 10, "5/2: " + four + " 10/9=10/9 11/9=11/9 12/9=12/9"},
		{5, 2, []uint64{9, 9, 9, 9, 9, 9}, 11, 6, "5/2: 6/9=6/9 7/9=7/9 8/9=8/9 9/9=9/9 10/9=10/9 11/9=11/9"},
	} {
		l := some(t)
		appends(t, l, x.index, x.term, row(x.index+1, x.terms...), x.last, x.from, api.OK)
		is(t, l, x.want)
	}
}

// P11.3: the place and the term tell whether an entry is there; what the log has then stays as it was, in all other fields.
func TestWhatIsThereStays(t *testing.T) {
	l := some(t)
	list := row(6, 2, 2, 4, 5)
	for i := range list {
		list[i].Data = []byte("new")
		list[i].Delta = 99
	}
	list[0] = api.Entry{Index: 6, Term: 2, Kind: api.EntryNone}
	appends(t, l, 5, 2, list, 9, 9, api.OK)
	is(t, l, "5/2: 6/2=6/2 7/2=7/2 8/4=8/4 9/5=new")
	out, _ := l.From(6, 4)
	for i, want := range []struct {
		kind  int
		delta int64
	}{{api.EntryData, 6}, {api.EntryData, 0}, {api.EntryData, 1}, {api.EntryData, 99}} {
		if out[i].Kind != want.kind || out[i].Delta != want.delta {
			t.Errorf("entry %d has kind %d, Delta %d", out[i].Index, out[i].Kind, out[i].Delta)
		}
	}
}

// P11.3: where index has not that term, or is no place of the log, there is a gap, and nothing happens.
func TestGap(t *testing.T) {
	l := some(t)
	for _, at := range []struct{ index, term uint64 }{
		{0, 0}, {4, 2}, {4, 0}, {5, 1}, {5, 3}, {6, 1}, {7, 4}, {8, 2}, {10, 6}, {10, 8}, {11, 7}, {11, 0}, {12, 7}, {top - 3, 7},
	} {
		for n := range 4 {
			appends(t, l, at.index, at.term, row(at.index+1, slices.Repeat([]uint64{at.term + 1}, n)...), 0, 0, api.ErrGap)
		}
	}
	for _, far := range beyond() {
		appends(t, l, far, 7, nil, 0, 0, api.ErrGap)
		appends(t, l, 10, far, nil, 0, 0, api.ErrGap)
		appends(t, l, far, far, nil, 0, 0, api.ErrGap)
	}
	is(t, l, someText)
}

// wrongLists are lists that may not follow place 10 of term 7, each by what is wrong with it.
func wrongLists() map[string][]api.Entry {
	with := func(change func(*api.Entry)) []api.Entry {
		list := row(11, 7, 8, 9)
		change(&list[1])
		return list
	}
	return map[string][]api.Entry{
		"an elder place":             row(10, 7),
		"a place left out":           row(12, 7),
		"a place left out amid":      {of(11, 7), of(13, 7)},
		"a place twice":              {of(11, 7), of(11, 7)},
		"turned round":               {of(12, 7), of(11, 7)},
		"place 0":                    {of(0, 7)},
		"a term below":               row(11, 6),
		"a term 0":                   row(11, 0),
		"terms that fall":            row(11, 8, 7),
		"terms that fall at last":    row(11, 7, 7, 9, 8),
		"a term above all":           row(11, top+1),
		"nothing":                    {{}},
		"nothing at last":            {of(11, 7), {}},
		"a kind 0":                   with(func(x *api.Entry) { x.Kind = 0 }),
		"a kind 4":                   with(func(x *api.Entry) { x.Kind = 4 }),
		"a kind below 0":             with(func(x *api.Entry) { x.Kind = math.MinInt }),
		"a Delta below 0":            with(func(x *api.Entry) { x.Delta = -1 }),
		"a Delta above MaxTerm":      with(func(x *api.Entry) { x.Delta = api.MaxTerm + 1 }),
		"too many data":              with(func(x *api.Entry) { x.Data = make([]byte, api.MaxFrame/16+1) }),
		"data of nothing":            with(func(x *api.Entry) { x.Kind = api.EntryNone }),
		"a conf of nothing":          with(func(x *api.Entry) { x.Kind, x.Data = api.EntryConf, nil }),
		"a conf that is none":        with(func(x *api.Entry) { x.Kind = api.EntryConf }),
		"a conf that is not sound":   with(func(x *api.Entry) { x.Kind, x.Data = api.EntryConf, []byte{0, 0} }),
		"a conf and a byte":          with(func(x *api.Entry) { x.Kind, x.Data = api.EntryConf, []byte{1, 1, 1, 1, 0, 0} }),
		"one unsound behind another": {of(11, 9), {Index: 12, Term: 9, Kind: 9}},
	}
}

// P11.3, R6: a list that may not follow is refused whole: none of it comes.
func TestWrongLists(t *testing.T) {
	for what, list := range wrongLists() {
		l := some(t)
		if last, from, e := l.Append(10, 7, list...); last != 0 || from != 0 || e != api.ErrForm {
			t.Errorf("%s: %d, %d, %d", what, last, from, e)
		}
		is(t, l, someText)
	}
}

// P11.3, R2: a wrong list is ErrForm, whether it fits or not.
func TestFormAheadOfGap(t *testing.T) {
	l := some(t)
	for what, list := range wrongLists() {
		for i := range list {
			// The same fault, at a place that is not there.
			list[i].Index += 100
		}
		if last, from, e := l.Append(110, 7, list...); last != 0 || from != 0 || e != api.ErrForm {
			t.Errorf("%s: %d, %d, %d", what, last, from, e)
		}
	}
	for _, at := range []struct{ index, term uint64 }{{4, 2}, {11, 7}, {10, 8}, {top, top}, {math.MaxUint64, 0}, {0, math.MaxUint64}} {
		appends(t, l, at.index, at.term, []api.Entry{{}}, 0, 0, api.ErrForm)
		appends(t, l, at.index, at.term, row(at.index+2, top), 0, 0, api.ErrForm)
	}
	appends(t, l, 5, 3, row(6, 2), 0, 0, api.ErrForm)
	appends(t, l, 12, 9, row(13, 8), 0, 0, api.ErrForm)
	is(t, l, someText)
}

// P11.3: a list whose entries the log has is refused too, if it is wrong.
func TestWrongListOfWhatIsThere(t *testing.T) {
	l := some(t)
	list := row(6, 2, 2)
	list[0].Kind = 0
	appends(t, l, 5, 2, list, 0, 0, api.ErrForm)
	appends(t, l, 5, 2, row(7, 2), 0, 0, api.ErrForm)
	appends(t, l, 5, 2, []api.Entry{of(6, 2), of(8, 4)}, 0, 0, api.ErrForm)
	is(t, l, someText)
}

// P11.3: the greatest place and term there may be; behind them comes nothing.
func TestGreatest(t *testing.T) {
	l := New(top-2, top)
	appends(t, l, top-2, top, row(top-1, top, top), top, top-1, api.OK)
	appends(t, l, top, top, nil, top, 0, api.OK)
	appends(t, l, top, top, row(top+1, top), 0, 0, api.ErrForm)
	appends(t, l, top-2, top, row(top-1, top, top, top), 0, 0, api.ErrForm)
	appends(t, l, top-2, top, row(top-1, top+1), 0, 0, api.ErrForm)
	if list, e := l.From(top+1, 1); list != nil || e != api.OK {
		t.Errorf("From behind the last: %v, %d", list, e)
	}
	if list, e := l.From(top+2, 1); list != nil || e != api.ErrNone {
		t.Errorf("From too far: %v, %d", list, e)
	}
	if index, term := l.Hint(math.MaxUint64, top); index != top || term != top {
		t.Errorf("Hint: %s", pair(index, term))
	}
	if e := l.Shrink(top); e != api.OK {
		t.Errorf("Shrink: %d", e)
	}
	is(t, l, pair(top, top)+":")
	for _, far := range beyond() {
		appends(t, l, far, top, row(far+1, top), 0, 0, api.ErrForm)
	}
	appends(t, l, math.MaxUint64, 0, row(0, 1), 0, 0, api.ErrForm)
	is(t, l, pair(top, top)+":")
}

// P11.3: a base of term 0, and one whose place is 0, are places like others.
func TestAppendToABaseOf0(t *testing.T) {
	for _, at := range []struct{ index, term uint64 }{{0, 0}, {3, 0}, {0, 3}} {
		l := New(at.index, at.term)
		appends(t, l, at.index, at.term, nil, at.index, 0, api.OK)
		if at.term == 0 {
			appends(t, l, at.index, 0, row(at.index+1, 0), 0, 0, api.ErrForm) // no entry has term 0
		}
		appends(t, l, at.index, at.term, row(at.index+1, 3, 3), at.index+2, at.index+1, api.OK)
		is(t, l, pair(at.index, at.term)+": "+words(row(at.index+1, 3, 3)))
	}
}

// P11.3, R8: a log and a list may be long.
func TestMany(t *testing.T) {
	const n = 20000
	list := row(1, slices.Repeat([]uint64{1}, n)...)
	l := New(0, 0)
	appends(t, l, 0, 0, list, n, 1, api.OK)
	appends(t, l, 0, 0, list, n, 0, api.OK)
	appends(t, l, 0, 0, append(list[:n-1:n-1], of(n, 2), of(n+1, 2)), n+1, n, api.OK)
	if e := l.Shrink(n - 2); e != api.OK {
		t.Errorf("Shrink: %d", e)
	}
	is(t, l, pair(n-2, 1)+": "+words(row(n-1, 1, 2, 2)))
	if !strings.HasSuffix(text(l), "20001/2=20001/2") {
		t.Errorf("the last one is gone: %q", text(l))
	}
}
