package rlog

import (
	"math"
	"slices"
	"strconv"
	"strings"
	"testing"

	"scupper/api"
	"scupper/msg"
)

const top = 1 << 62

// beyond are numbers that are above all places and terms.
func beyond() []uint64 {
	return []uint64{top + 1, 1<<63 - 1, 1 << 63, math.MaxUint64 - 1, math.MaxUint64}
}

// of is an entry with some data, which tell its place and term.
func of(index, term uint64) api.Entry {
	return api.Entry{Index: index, Term: term, Kind: api.EntryData, Delta: int64(index % 7), Data: []byte(strconv.FormatUint(index, 10) + "/" + strconv.FormatUint(term, 10))}
}

// row are entries from place first on, by their terms.
func row(first uint64, terms ...uint64) []api.Entry {
	var list []api.Entry
	for i, term := range terms {
		list = append(list, of(first+uint64(i), term))
	}
	return list
}

// logOf is a log with a base and entries of these terms.
func logOf(t *testing.T, index, term uint64, terms ...uint64) *Log {
	t.Helper()
	l := New(index, term)
	if _, _, e := l.Append(index, term, row(index+1, terms...)...); e != api.OK {
		t.Fatalf("Append of %v to %d, %d: %d", terms, index, term, e)
	}
	return l
}

// some is a log that the tests look at: places 6, 7, .. behind its base.
func some(t *testing.T) *Log { return logOf(t, 5, 2, 2, 2, 4, 4, 7) }

const someText = "5/2: 6/2=6/2 7/2=7/2 8/4=8/4 9/4=9/4 10/7=10/7"

// words are entries as "6/2=x": place, term and data.
func words(list []api.Entry) string {
	var out []string
	for _, x := range list {
		out = append(out, pair(x.Index, x.Term)+"="+string(x.Data))
	}
	return strings.Join(out, " ")
}

func pair(index, term uint64) string {
	return strconv.FormatUint(index, 10) + "/" + strconv.FormatUint(term, 10)
}

// text is a log: its base, and its entries.
func text(l *Log) string {
	if l == nil {
		return "nil"
	}
	list, _ := l.From(first(l), math.MaxInt)
	return strings.TrimSpace(pair(l.Base()) + ": " + words(list))
}

// first is the place behind the base.
func first(l *Log) uint64 {
	index, _ := l.Base()
	return index + 1
}

// is holds a log against its text.
func is(t *testing.T, l *Log, want string) {
	t.Helper()
	if got := text(l); got != want {
		t.Errorf("the log is %q; want %q", got, want)
	}
}

// same tells whether two entries are the same in all fields.
func same(a, b api.Entry) bool {
	return a.Index == b.Index && a.Term == b.Term && a.Kind == b.Kind && a.Delta == b.Delta && string(a.Data) == string(b.Data)
}

// The chapter's examples.
func TestExample(t *testing.T) {
	l := New(5, 2)
	for i, want := range map[uint64]struct {
		term uint64
		e    api.Errno
	}{4: {0, api.ErrOld}, 5: {2, api.OK}, 6: {0, api.ErrNone}} {
		if term, e := l.Term(i); term != want.term || e != want.e {
			t.Errorf("Term of %d: %d, %d", i, term, e)
		}
	}
	appends(t, l, 5, 2, row(6, 2, 2), 7, 6, api.OK)
	appends(t, l, 6, 2, row(7, 3), 7, 7, api.OK)
	if index, term := l.Last(); index != 7 || term != 3 {
		t.Errorf("Last: %d, %d", index, term)
	}
	appends(t, l, 5, 2, row(6, 2), 6, 0, api.OK)
	is(t, l, "5/2: 6/2=6/2 7/3=7/3")
	if index, term := l.Hint(9, 2); index != 6 || term != 2 {
		t.Errorf("Hint: %d, %d", index, term)
	}
}

// P11.1: a new log has its base alone; there is none above 2^62.
func TestNew(t *testing.T) {
	fine := []uint64{0, 1, 2, 1 << 32, top - 1, top}
	for _, index := range fine {
		for _, term := range fine {
			l := New(index, term)
			is(t, l, pair(index, term)+":")
			if place, have := l.Last(); place != index || have != term {
				t.Errorf("Last of %s: %s", pair(index, term), pair(place, have))
			}
			if have, e := l.Term(index); have != term || e != api.OK {
				t.Errorf("Term of the base %s: %d, %d", pair(index, term), have, e)
			}
			if list, e := l.From(index+1, 9); list != nil || e != api.OK {
				t.Errorf("From behind the base %s: %v, %d", pair(index, term), list, e)
			}
		}
		for _, other := range beyond() {
			if New(index, other) != nil || New(other, index) != nil || New(other, other) != nil {
				t.Errorf("New of %d and %d is a log", index, other)
			}
		}
	}
}

// P11.1: Base stays where it is, Last is the last entry.
func TestEnds(t *testing.T) {
	l := some(t)
	if index, term := l.Base(); index != 5 || term != 2 {
		t.Errorf("Base: %d, %d", index, term)
	}
	if index, term := l.Last(); index != 10 || term != 7 {
		t.Errorf("Last: %d, %d", index, term)
	}
}

// P11.1: the term of each place, from the base to the last; no place besides.
func TestTerm(t *testing.T) {
	l := some(t)
	for i, want := range []uint64{2, 2, 2, 4, 4, 7} {
		if term, e := l.Term(uint64(5 + i)); term != want || e != api.OK {
			t.Errorf("Term of %d: %d, %d; want %d", 5+i, term, e, want)
		}
	}
	for i := range uint64(5) {
		if term, e := l.Term(i); term != 0 || e != api.ErrOld {
			t.Errorf("Term of %d: %d, %d", i, term, e)
		}
	}
	for _, i := range append(beyond(), 11, 12, 1<<32, 1<<32+6, top) {
		if term, e := l.Term(i); term != 0 || e != api.ErrNone {
			t.Errorf("Term of %d: %d, %d", i, term, e)
		}
	}
}

// P11.1: the entries from each place on, and no more of them than are asked for.
func TestFrom(t *testing.T) {
	l := some(t)
	all := row(6, 2, 2, 4, 4, 7)
	for i := range 6 {
		for _, most := range []int{0, 1, 2, 3, 4, 5, 6, 1 << 32, math.MaxInt - 1, math.MaxInt} {
			want := all[i:]
			if most < len(want) {
				want = want[:most]
			}
			list, e := l.From(uint64(6+i), most)
			if !slices.EqualFunc(list, want, same) || e != api.OK {
				t.Errorf("From %d, at most %d: %q, %d; want %q", 6+i, most, words(list), e, words(want))
			}
			if len(list) == 0 && list != nil {
				t.Errorf("From %d, at most %d: an empty list", 6+i, most)
			}
		}
	}
}

// P11.1, R2: what From refuses: a place that is gone, and one that is too far, ahead of a wrong most.
func TestFromRefuses(t *testing.T) {
	l := some(t)
	below := []int{-1, -2, math.MinInt, math.MinInt + 1}
	for _, most := range append(below, 0, 1, 5, math.MaxInt) {
		for i := range uint64(6) {
			if list, e := l.From(i, most); list != nil || e != api.ErrOld {
				t.Errorf("From %d, at most %d: %v, %d", i, most, list, e)
			}
		}
		for _, i := range append(beyond(), 12, 13, 1<<32, top) {
			if list, e := l.From(i, most); list != nil || e != api.ErrNone {
				t.Errorf("From %d, at most %d: %v, %d", i, most, list, e)
			}
		}
	}
	for _, most := range below {
		for i := uint64(6); i <= 11; i++ {
			if list, e := l.From(i, most); list != nil || e != api.ErrArg {
				t.Errorf("From %d, at most %d: %v, %d", i, most, list, e)
			}
		}
	}
}

// P11.1: each field of an entry comes out as it went in, for each kind of entry.
func TestFieldsStay(t *testing.T) {
	conf, _ := msg.Conf(api.Conf{Voters: []int{1, 3}, Learners: []int{2}})
	in := []api.Entry{
		{Index: 1, Term: 1, Kind: api.EntryNone},
		{Index: 2, Term: 1, Kind: api.EntryNone, Delta: api.MaxTerm},
		{Index: 3, Term: 1, Kind: api.EntryData},
		{Index: 4, Term: 9, Kind: api.EntryData, Delta: 5, Data: []byte{0}},
		{Index: 5, Term: 9, Kind: api.EntryData, Delta: api.MaxTerm, Data: []byte{0xff, 0, 0x80, 'a'}},
		{Index: 6, Term: 10, Kind: api.EntryConf, Delta: 1, Data: conf},
		{Index: 7, Term: top, Kind: api.EntryData, Data: slices.Repeat([]byte{7}, api.MaxFrame/16)},
	}
	l := New(0, 0)
	appends(t, l, 0, 0, in, 7, 1, api.OK)
	out, e := l.From(1, len(in))
	if !slices.EqualFunc(out, in, same) || e != api.OK {
		t.Errorf("From: %q, %d", words(out), e)
	}
	for _, x := range out {
		if len(x.Data) == 0 && x.Data != nil {
			t.Errorf("entry %d has an empty list", x.Index)
		}
	}
}

// P11.2: a place of the log with its term fits, the base too; nothing else does.
func TestFits(t *testing.T) {
	l := some(t)
	terms := map[uint64]uint64{5: 2, 6: 2, 7: 2, 8: 4, 9: 4, 10: 7}
	for index := range uint64(14) {
		for term := range uint64(10) {
			want, has := terms[index]
			if got := l.Fits(index, term); got != (has && term == want) {
				t.Errorf("Fits of %s: %t", pair(index, term), got)
			}
		}
	}
	for _, far := range append(beyond(), 1<<32, 1<<32+5, top) {
		for n := range uint64(11) {
			if l.Fits(far, n) || l.Fits(n, far) || l.Fits(far, far) {
				t.Errorf("%d and %d fit", far, n)
			}
		}
	}
	// Where there is no place, 0 is no term of it.
	if l.Fits(4, 0) || l.Fits(0, 0) || l.Fits(11, 0) {
		t.Errorf("a place that is not there fits")
	}
}

// P11.2: a greater last term is fresh, whatever the place; with the same one it is the place that tells.
func TestFresh(t *testing.T) {
	for name, l := range map[string]*Log{"entries": some(t), "a base alone": New(10, 7)} {
		for _, x := range []struct {
			index, term uint64
			want        bool
		}{
			{10, 7, true}, {11, 7, true}, {9, 7, false}, {0, 7, false}, {math.MaxUint64, 7, true},
			{0, 8, true}, {10, 8, true}, {math.MaxUint64, 8, true}, {0, math.MaxUint64, true}, {9, top, true},
			{10, 6, false}, {11, 6, false}, {math.MaxUint64, 6, false}, {math.MaxUint64, 0, false}, {5, 2, false}, {0, 0, false},
		} {
			if got := l.Fresh(x.index, x.term); got != x.want {
				t.Errorf("%s: Fresh of %s: %t", name, pair(x.index, x.term), got)
			}
		}
	}
	if l := New(0, 0); !l.Fresh(0, 0) || !l.Fresh(1, 0) || !l.Fresh(0, 1) {
		t.Errorf("nothing is older than nothing")
	}
}

// P11.4: the greatest place that is above neither; the base, if there is none.
func TestHint(t *testing.T) {
	l := some(t)
	for _, x := range []struct{ index, term, place, have uint64 }{
		{10, 7, 10, 7}, {11, 7, 10, 7}, {math.MaxUint64, math.MaxUint64, 10, 7}, {top, 8, 10, 7},
		{10, 6, 9, 4}, {10, 4, 9, 4}, {11, 4, 9, 4}, {9, 7, 9, 4}, {9, 4, 9, 4}, {8, 4, 8, 4}, {8, 9, 8, 4},
		{10, 3, 7, 2}, {10, 2, 7, 2}, {8, 3, 7, 2}, {7, 9, 7, 2}, {6, 9, 6, 2}, {6, 2, 6, 2},
		{5, 2, 5, 2}, {5, 9, 5, 2}, {5, 1, 5, 2}, {5, 0, 5, 2},
		// None is above the base, which may itself be above what is asked for.
		{10, 1, 5, 2}, {10, 0, 5, 2}, {math.MaxUint64, 0, 5, 2}, {4, 9, 5, 2}, {0, 9, 5, 2}, {0, 0, 5, 2},
	} {
		if place, have := l.Hint(x.index, x.term); place != x.place || have != x.have {
			t.Errorf("Hint of %s: %s; want %s", pair(x.index, x.term), pair(place, have), pair(x.place, x.have))
		}
	}
	for _, n := range []uint64{0, 3, 4, 9, top, math.MaxUint64} {
		if place, have := New(4, 3).Hint(n, n); place != 4 || have != 3 {
			t.Errorf("Hint of %d in a log without entries: %s", n, pair(place, have))
		}
	}
}

// P11.4: what is up to the new base is gone, what is behind it stays.
func TestShrink(t *testing.T) {
	for _, x := range []struct {
		index uint64
		want  string
	}{
		{5, someText},
		{6, "6/2: 7/2=7/2 8/4=8/4 9/4=9/4 10/7=10/7"},
		{8, "8/4: 9/4=9/4 10/7=10/7"},
		{9, "9/4: 10/7=10/7"},
		{10, "10/7:"},
	} {
		l := some(t)
		if e := l.Shrink(x.index); e != api.OK {
			t.Errorf("Shrink to %d: %d", x.index, e)
		}
		is(t, l, x.want)
		if _, e := l.Term(x.index - 1); e != api.ErrOld {
			t.Errorf("behind Shrink to %d, Term of %d: %d", x.index, x.index-1, e)
		}
		if index, term := l.Last(); index != 10 || term != 7 {
			t.Errorf("behind Shrink to %d, Last is %s", x.index, pair(index, term))
		}
		// It goes on where it ended.
		appends(t, l, 10, 7, row(11, 7), 11, 11, api.OK)
		is(t, l, x.want+" 11/7=11/7")
	}
}

// P11.4, R6: a place that is no place of the log is refused, and nothing is changed.
func TestShrinkRefuses(t *testing.T) {
	l := some(t)
	for i := range uint64(5) {
		if e := l.Shrink(i); e != api.ErrOld {
			t.Errorf("Shrink to %d: %d", i, e)
		}
	}
	for _, i := range append(beyond(), 11, 12, 1<<32, 1<<32+6, top) {
		if e := l.Shrink(i); e != api.ErrNone {
			t.Errorf("Shrink to %d: %d", i, e)
		}
	}
	is(t, l, someText)
}

// P11.4: a base may move again and again; what is gone comes back no more.
func TestShrinkAgain(t *testing.T) {
	l := some(t)
	for _, i := range []uint64{6, 6, 8} {
		if e := l.Shrink(i); e != api.OK {
			t.Errorf("Shrink to %d: %d", i, e)
		}
	}
	if e := l.Shrink(7); e != api.ErrOld {
		t.Errorf("Shrink back to 7: %d", e)
	}
	appends(t, l, 7, 2, row(8, 4), 0, 0, api.ErrGap)
	is(t, l, "8/4: 9/4=9/4 10/7=10/7")
}

// P11.5: of no log there is nothing.
func TestNil(t *testing.T) {
	var l *Log
	for _, n := range append(beyond(), 0, 1, top) {
		if index, term := l.Base(); index != 0 || term != 0 {
			t.Errorf("Base: %d, %d", index, term)
		}
		if index, term := l.Last(); index != 0 || term != 0 {
			t.Errorf("Last: %d, %d", index, term)
		}
		if term, e := l.Term(n); term != 0 || e != api.ErrArg {
			t.Errorf("Term: %d, %d", term, e)
		}
		for _, most := range []int{math.MinInt, -1, 0, 1, math.MaxInt} {
			if list, e := l.From(n, most); list != nil || e != api.ErrArg {
				t.Errorf("From: %v, %d", list, e)
			}
		}
		if l.Fits(n, n) || l.Fresh(n, n) || l.Fits(0, n) || l.Fresh(0, n) {
			t.Errorf("Fits or Fresh of %d", n)
		}
		appends(t, l, n, n, nil, 0, 0, api.ErrArg)
		appends(t, l, n, n, row(n+1, n), 0, 0, api.ErrArg)
		appends(t, l, n, n, []api.Entry{{}}, 0, 0, api.ErrArg)
		if index, term := l.Hint(n, n); index != 0 || term != 0 {
			t.Errorf("Hint: %d, %d", index, term)
		}
		if e := l.Shrink(n); e != api.ErrArg {
			t.Errorf("Shrink: %d", e)
		}
	}
	if l.Copy() != nil {
		t.Errorf("Copy is a log")
	}
}

// R1: the zero Log is one whose base is 0.
func TestZero(t *testing.T) {
	is(t, new(Log), "0/0:")
	is(t, new(Log).Copy(), "0/0:")
	l := new(Log)
	appends(t, l, 0, 0, row(1, 1, 1), 2, 1, api.OK)
	is(t, l, "0/0: 1/1=1/1 2/1=2/1")
}

// P11.5: a copy has what the log has, and goes its own way from there.
func TestCopy(t *testing.T) {
	is(t, New(top, top).Copy(), pair(top, top)+":")
	l := some(t)
	changes := map[string]func(*Log){
		"Append behind": func(l *Log) { l.Append(10, 7, row(11, 8)...) },
		"Append amid":   func(l *Log) { l.Append(7, 2, row(8, 9, 9)...) },
		"Append first":  func(l *Log) { l.Append(5, 2, row(6, 9, 9)...) },
		"Shrink":        func(l *Log) { l.Shrink(8) },
		"Shrink, Append": func(l *Log) {
			l.Shrink(7)
			l.Append(7, 2, row(8, 9, 9, 9, 9, 9)...)
		},
	}
	for name, change := range changes {
		one, two := l.Copy(), l.Copy()
		is(t, one, someText)
		change(one)
		if text(one) == someText {
			t.Errorf("%s changed nothing", name)
		}
		is(t, l, someText)
		is(t, two, someText)
		// The other way round: what the log does is nothing to its copy.
		from := two.Copy()
		change(two)
		is(t, from, someText)
	}
}

// R4: a log and its copy that both go on behind the last place have no spare room in common, however many entries there are.
func TestCopiesGoOnAlone(t *testing.T) {
	l := New(0, 0)
	_, term := l.Last()
	for i := range uint64(40) {
		other := l.Copy()
		appends(t, l, i, term, row(i+1, 1), i+1, i+1, api.OK)
		appends(t, other, i, term, row(i+1, 9), i+1, i+1, api.OK)
		_, term = l.Last()
		if have, _ := other.Term(i + 1); term != 1 || have != 9 {
			t.Fatalf("place %d has term %d, that of the copy %d", i+1, term, have)
		}
	}
}

// spoil changes all of a list of bytes, its spare room too.
func spoil(b []byte) {
	b = b[:cap(b)]
	for i := range b {
		b[i] ^= 0x55
	}
}

// spoilAll changes all of a list of entries and of their data, spare room too.
func spoilAll(list []api.Entry) {
	for i := range list {
		spoil(list[i].Data)
	}
	list = list[:cap(list)]
	for i := range list {
		list[i] = api.Entry{Index: 99, Term: 99, Kind: 99}
	}
}

// P11.5, R4: what is handed in is not kept, neither by a log nor by its copy, and what is answered is shared with nothing.
func TestNothingIsShared(t *testing.T) {
	list := row(6, 2, 2, 4, 4, 7)
	l := New(5, 2)
	appends(t, l, 5, 2, list, 10, 6, api.OK)
	spoilAll(list)
	is(t, l, someText)
	other := l.Copy()
	one, _ := l.From(6, 5)
	two, _ := l.From(6, 5)
	three, _ := other.From(6, 5)
	spoilAll(one)
	for _, kept := range [][]api.Entry{two, three} {
		if words(kept) != words(row(6, 2, 2, 4, 4, 7)) {
			t.Errorf("another answer is %q", words(kept))
		}
	}
	is(t, l, someText)
	is(t, other, someText)
	// The data of one answer lie apart, spare room included.
	for i := range two {
		spoil(two[i].Data)
		for k := i + 1; k < len(two); k++ {
			if string(two[k].Data) != string(three[k].Data) {
				t.Errorf("entry %d hangs on entry %d", two[k].Index, two[i].Index)
			}
		}
	}
}

// R4: what is handed in is not changed, spare room included, whether it comes, is left or is refused.
func TestArgumentsStay(t *testing.T) {
	for _, at := range []struct{ index, term uint64 }{{5, 2}, {5, 3}, {6, 2}} {
		data := []byte("-ab-")
		whole := append(row(6, 2, 2, 9, 9), of(77, 78))
		whole[1].Data = data[1:3]
		some(t).Append(at.index, at.term, whole[:4]...)
		if string(data) != "-ab-" || words(whole) != "6/2=6/2 7/2=ab 8/9=8/9 9/9=9/9 77/78=77/78" {
			t.Errorf("Append at %s changed what it was handed: %q, %q", pair(at.index, at.term), data, words(whole))
		}
	}
}

// R4: what a log has may be handed back to it.
func TestOwnAnswers(t *testing.T) {
	l := some(t)
	list, _ := l.From(6, 5)
	appends(t, l, 5, 2, list, 10, 0, api.OK)
	list[2].Term, list[3].Term = 5, 5
	appends(t, l, 5, 2, list, 10, 8, api.OK)
	is(t, l, "5/2: 6/2=6/2 7/2=7/2 8/5=8/4 9/5=9/4 10/7=10/7")
}
