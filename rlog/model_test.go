package rlog

import (
	"math"
	"math/rand"
	"testing"

	"scupper/api"
)

// model is a log as a map from places to entries.
type model struct {
	base, term uint64
	at         map[uint64]api.Entry
}

func (m *model) copy() *model {
	other := &model{m.base, m.term, map[uint64]api.Entry{}}
	for i, x := range m.at {
		other.at[i] = x
	}
	return other
}

func (m *model) last() (uint64, uint64) {
	place, term := m.base, m.term
	for i, x := range m.at {
		if i > place {
			place, term = i, x.Term
		}
	}
	return place, term
}

// has answers the term of a place, and whether it is one.
func (m *model) has(i uint64) (uint64, bool) {
	if i == m.base {
		return m.term, true
	}
	x, is := m.at[i]
	return x.Term, is
}

func (m *model) errno(i uint64) api.Errno {
	last, _ := m.last()
	switch {
	case i < m.base:
		return api.ErrOld
	case i > last:
		return api.ErrNone
	}
	return api.OK
}

// hint goes through all places.
func (m *model) hint(index, term uint64) (uint64, uint64) {
	place, have := m.base, m.term
	for i, x := range m.at {
		if i > place && i <= index && x.Term <= term {
			place, have = i, x.Term
		}
	}
	return place, have
}

// follows tells whether a list may follow; all its entries are sound but for their places and terms.
func follows(index, term uint64, list []api.Entry) bool {
	for i, x := range list {
		if x.Index != index+uint64(i)+1 || x.Index == 0 || x.Index > top || x.Term < term || x.Term == 0 || x.Term > top {
			return false
		}
		term = x.Term
	}
	return true
}

func (m *model) append(index, term uint64, list []api.Entry) (last, from uint64, e api.Errno) {
	if !follows(index, term, list) {
		return 0, 0, api.ErrForm
	}
	if have, is := m.has(index); !is || have != term {
		return 0, 0, api.ErrGap
	}
	for _, x := range list {
		if have, is := m.has(x.Index); from == 0 && is && have == x.Term {
			continue
		}
		if from == 0 {
			from = x.Index
			for i := range m.at {
				if i >= from {
					delete(m.at, i)
				}
			}
		}
		m.at[x.Index] = x
	}
	return index + uint64(len(list)), from, api.OK
}

func (m *model) shrink(index uint64) api.Errno {
	if e := m.errno(index); e != api.OK {
		return e
	}
	m.term, _ = m.has(index)
	m.base = index
	for i := range m.at {
		if i <= index {
			delete(m.at, i)
		}
	}
	return api.OK
}

// holds holds all that a log tells against the model, near its places.
func (m *model) holds(t *testing.T, l *Log) {
	t.Helper()
	last, lastTerm := m.last()
	if index, term := l.Base(); index != m.base || term != m.term {
		t.Fatalf("Base: %s; want %s", pair(index, term), pair(m.base, m.term))
	}
	if index, term := l.Last(); index != last || term != lastTerm {
		t.Fatalf("Last: %s; want %s", pair(index, term), pair(last, lastTerm))
	}
	for i := m.base - min(m.base, 2); i <= last+3; i++ {
		want, is := m.has(i)
		if term, e := l.Term(i); term != want || e != m.errno(i) {
			t.Fatalf("Term of %d: %d, %d; want %d, %d", i, term, e, want, m.errno(i))
		}
		m.holdsFrom(t, l, i, int(i%5))
		m.holdsFrom(t, l, i, math.MaxInt)
		for term := m.term - min(m.term, 2); term <= lastTerm+2; term++ {
			if l.Fits(i, term) != (is && term == want) {
				t.Fatalf("Fits of %s: %t", pair(i, term), l.Fits(i, term))
			}
			if fresh := term > lastTerm || term == lastTerm && i >= last; l.Fresh(i, term) != fresh {
				t.Fatalf("Fresh of %s: %t", pair(i, term), !fresh)
			}
			place, have := l.Hint(i, term)
			if wantPlace, wantTerm := m.hint(i, term); place != wantPlace || have != wantTerm {
				t.Fatalf("Hint of %s: %s; want %s", pair(i, term), pair(place, have), pair(wantPlace, wantTerm))
			}
		}
	}
}

// holdsFrom holds From against the model.
func (m *model) holdsFrom(t *testing.T, l *Log, i uint64, most int) {
	t.Helper()
	last, _ := m.last()
	list, e := l.From(i, most)
	want := api.OK
	if i <= m.base {
		want = api.ErrOld
	} else if i > last+1 {
		want = api.ErrNone
	}
	n := 0
	if want == api.OK {
		n = min(most, int(last+1-i))
	}
	if e != want || len(list) != n {
		t.Fatalf("From %d, at most %d: %q, %d; want %d entries, %d", i, most, words(list), e, n, want)
	}
	for k, x := range list {
		if !same(x, m.at[i+uint64(k)]) {
			t.Fatalf("From %d: %q stands at %d", i, words(list), i+uint64(k))
		}
	}
}

// drawnEntry is a sound entry, of any kind.
func drawnEntry(r *rand.Rand, index, term uint64) api.Entry {
	x := api.Entry{Index: index, Term: term, Kind: 1 + r.Intn(3), Delta: r.Int63n(api.MaxTerm+1) >> r.Intn(41)}
	switch x.Kind {
	case api.EntryData:
		x.Data = make([]byte, r.Intn(6))
		r.Read(x.Data)
	case api.EntryConf:
		x.Data = []byte{1, 1, 1, byte(1 + r.Intn(16)), 0}
	}
	return x
}

// drawnList is a list that follows some place of the log, mostly: it begins with some of what is there, and goes on otherwise.
func drawnList(r *rand.Rand, m *model) (index, term uint64, list []api.Entry) {
	last, _ := m.last()
	index = m.base + uint64(r.Intn(int(last-m.base)+1))
	term, _ = m.has(index)
	place, now := index, term
	for keep := r.Intn(5); keep > 0 && place < last; keep-- {
		place++
		now, _ = m.has(place)
		list = append(list, drawnEntry(r, place, now))
	}
	for range r.Intn(4) {
		place++
		now += uint64(r.Intn(5) / 3)
		list = append(list, drawnEntry(r, place, max(now, 1)))
	}
	switch r.Intn(12) {
	case 0:
		index += uint64(r.Intn(3)) - 1
	case 1:
		term += uint64(r.Intn(3)) - 1
	case 2:
		if len(list) > 0 {
			list[r.Intn(len(list))].Term += uint64(r.Intn(3)) - 1
		}
	case 3:
		if len(list) > 0 {
			list[r.Intn(len(list))].Index += uint64(r.Intn(3)) - 1
		}
	case 4:
		// As if the list had begun further on, where it may fit or not.
		index, list = index+uint64(len(list)), nil
	}
	return index, term, list
}

// P11.1 to P11.5: any calls, one behind the other, of some logs that were copied from one another.
func TestAnyCalls(t *testing.T) {
	var seen [api.ErrOrder + 1]int
	for seed := range int64(300) {
		r := rand.New(rand.NewSource(seed))
		base := []uint64{0, 0, 5, top - 12}[r.Intn(4)]
		m := &model{base, []uint64{0, 1, 4, top - 6}[r.Intn(4)], map[uint64]api.Entry{}}
		models, logs := []*model{m}, []*Log{New(m.base, m.term)}
		for range 60 {
			k := r.Intn(len(logs))
			m, l := models[k], logs[k]
			switch r.Intn(10) {
			case 0:
				index := m.base + uint64(r.Intn(8)) - 1
				e := l.Shrink(index)
				if want := m.shrink(index); e != want {
					t.Fatalf("seed %d: Shrink to %d: %d; want %d", seed, index, e, want)
				}
			case 1:
				if len(logs) < 4 {
					models, logs = append(models, m.copy()), append(logs, l.Copy())
				}
			default:
				index, term, list := drawnList(r, m)
				last, from, e := l.Append(index, term, list...)
				wantLast, wantFrom, want := m.append(index, term, list)
				if last != wantLast || from != wantFrom || e != want {
					t.Fatalf("seed %d: Append of %q at %s: %d, %d, %d; want %d, %d, %d", seed, words(list), pair(index, term), last, from, e, wantLast, wantFrom, want)
				}
				seen[e]++
			}
		}
		for k := range logs {
			models[k].holds(t, logs[k])
		}
	}
	if min(seen[api.OK], seen[api.ErrForm], seen[api.ErrGap]) < 200 {
		t.Errorf("too few of some answer: %v", seen)
	}
}
