package wal

import (
	"math/rand"
	"slices"
	"strconv"
	"testing"

	"scupper/api"
	"scupper/disk"
)

// step is a call of a log.
type step struct {
	kind int // the place of its name in stepNames
	n    uint64
	list [][]byte
}

const (
	stepAppend = iota
	stepSync
	stepCut
	stepDrop
	stepReset
)

func (s step) String() string {
	name := []string{"Append", "Sync", "Cut", "Drop", "Reset"}[s.kind]
	if s.kind == stepAppend {
		return name + " of " + strconv.Itoa(len(s.list))
	}
	return name + "(" + strconv.FormatUint(s.n, 10) + ")"
}

func (s step) do(l *Log) api.Errno {
	switch s.kind {
	case stepAppend:
		return l.Append(s.list...)
	case stepSync:
		return l.Sync()
	case stepCut:
		return l.Cut(s.n)
	case stepDrop:
		return l.Drop(s.n)
	}
	return l.Reset(s.n)
}

// model is what a log has, and how many of its records no fall takes.
type model struct {
	state
	sure int
}

// behind is the model behind a step that was answered with OK. How much a Drop took is free: it is read from the log.
func (m model) behind(s step, first uint64) model {
	switch s.kind {
	case stepAppend:
		return model{state{m.first, append(slices.Clone(m.list), texts(s.list)...)}, m.sure}
	case stepCut:
		m.state = m.upTo(int(s.n - m.first))
	case stepDrop:
		m.state = state{first, m.list[first-m.first:]}
	case stepReset:
		m.state = state{first: s.n}
	}
	return model{m.state, len(m.list)}
}

// refuses is the error that the chapter names ahead of the disk's.
func (m model) refuses(s step) api.Errno {
	switch {
	case s.kind == stepAppend && slices.ContainsFunc(s.list, func(r []byte) bool { return len(r) > api.MaxFrame-16 }):
		return api.ErrLarge
	case s.kind == stepCut && s.n < m.first:
		return api.ErrOld
	case (s.kind == stepCut || s.kind == stepDrop) && s.n > m.next():
		return api.ErrGap
	case s.kind == stepReset && s.n == 0:
		return api.ErrArg
	}
	return api.OK
}

// leaves tells whether a fall may leave got of the model.
func (m model) leaves(got state) bool {
	n := len(got.list)
	return n >= m.sure && n <= len(m.list) && m.upTo(n).equal(got)
}

// firstOf is the First that a step would leave, if the disk did not fall.
func firstOf(t *testing.T, d *disk.Disk, s step) uint64 {
	t.Helper()
	d = d.Copy()
	do(t, d.Fuse(0))
	l := opened(t, d)
	if s.do(l) != api.OK {
		return 1
	}
	return l.First()
}

// crash holds all that a fall of d may leave against what models allow, and answers the log behind the last of them.
func crash(t *testing.T, what string, d *disk.Disk, masks []uint64, torn []int, allowed ...model) (*disk.Disk, *Log, state) {
	t.Helper()
	var c *disk.Disk
	var l *Log
	var got state
	for _, mask := range masks {
		for _, n := range torn {
			c = d.Copy()
			do(t, c.Fall(mask, n))
			l = opened(t, c)
			got = stateOf(t, l)
			if !slices.ContainsFunc(allowed, func(m model) bool { return m.leaves(got) }) {
				t.Fatalf("%s, mask %b, torn %d: %v; allowed %v", what, mask, n, got, allowed)
			}
			slim(t, c, l)
			again(t, what, c, got)
		}
	}
	return c, l, got
}

// again holds a log that was found against another fall, and lets it grow, lest something comes to light again.
func again(t *testing.T, what string, c *disk.Disk, s state) {
	t.Helper()
	c = c.Copy()
	has(t, what+", Open again", opened(t, c), s.first, s.list...)
	do(t, c.Fall(0, -1), c.Room(api.MaxDisk))
	l := opened(t, c)
	has(t, what+", fallen again", l, s.first, s.list...)
	for i := range 6 {
		r := sized(byte('0'+i), 150)
		do(t, l.Append(r), l.Sync())
		s.list = append(s.list, string(r))
		has(t, what+", and Append", fallen(t, c), s.first, s.list...)
	}
}

// ones is Append of n records of so many bytes, one by one.
func ones(n, size int) []step {
	var list []step
	for _, r := range numbers(n, size) {
		list = append(list, step{kind: stepAppend, list: [][]byte{r}})
	}
	return list
}

func batch(n, size int) step { return step{kind: stepAppend, list: numbers(n, size)} }

// P5.3: each change of each of these logs fails in turn, and of what is unsure then all that may stay does.
func TestEachFall(t *testing.T) {
	sync := step{kind: stepSync}
	cut := func(n uint64) step { return step{kind: stepCut, n: n} }
	drop := func(n uint64) step { return step{kind: stepDrop, n: n} }
	reset := func(n uint64) step { return step{kind: stepReset, n: n} }
	for i, list := range [][]step{
		slices.Concat(ones(3, 9), []step{sync}, ones(4, 300)),
		slices.Concat(ones(6, 400), []step{cut(4)}, ones(2, 5), []step{cut(1)}, ones(3, 10)),
		slices.Concat(ones(8, 300), []step{sync, cut(7)}, ones(2, 600), []step{cut(3), sync}),
		slices.Concat(ones(9, 300), []step{sync, drop(6)}, ones(2, 300), []step{sync, drop(9), drop(12)}, ones(1, 5)),
		slices.Concat(ones(9, 300), []step{drop(6)}, ones(2, 300), []step{sync, reset(2)}, ones(1, 5)),
		slices.Concat(ones(9, 600), []step{drop(9), cut(9)}, ones(1, 5), []step{drop(10)}),
		{batch(30, 300), drop(20), batch(3, 7), drop(31), sync},
		slices.Concat(ones(3, 300), []step{batch(30, 300)}, ones(3, 600), []step{sync, drop(20), cut(22), drop(22)}, ones(2, 5)),
		slices.Concat(ones(3, 300), []step{sync, reset(2)}, ones(3, 300), []step{sync, reset(9), sync, reset(9)}, ones(2, 4)),
		slices.Concat([]step{reset(5), sync}, ones(2, 7), []step{reset(1), drop(1), cut(1)}, ones(2, 7), []step{drop(2), reset(3)}),
		slices.Concat([]step{batch(3, 0)}, ones(3, 0), []step{cut(5), batch(2, 0), drop(4), batch(0, 0), sync}),
	} {
		for n := 1; eachFall(t, strconv.Itoa(i)+", fuse "+strconv.Itoa(n), list, n); n++ {
		}
	}
}

// eachFall does steps till the n-th change fails, and tells whether it did.
func eachFall(t *testing.T, what string, list []step, n int) bool {
	t.Helper()
	d, l := on(t, api.MaxDisk)
	do(t, d.Fuse(n))
	m := model{state: state{first: 1}}
	for _, s := range list {
		before := d.Copy()
		e := s.do(l)
		if e == api.OK {
			m = m.behind(s, l.First())
			continue
		}
		want(t, what+": "+s.String(), e, api.ErrDown)
		then := m.behind(s, firstOf(t, before, s))
		crash(t, what+": "+s.String(), d, masksFor(len(d.Unsure())), []int{-1, 0, 1, 8, 100, 1000}, m, then)
		return true
	}
	crash(t, what+": all done", d, masksFor(len(d.Unsure())), []int{-1, 0, 4, 9}, m)
	return false
}

// masksFor is all that may stay of n changes; some of it, where they are many.
func masksFor(n int) []uint64 {
	if n <= 5 {
		var list []uint64
		for mask := range uint64(1) << n {
			list = append(list, mask)
		}
		return list
	}
	list := []uint64{0, 1<<n - 1, 0x5555, 0xaaaa, 0xf0f0, 0x0ff0, 1}
	for k := range n {
		list = append(list, 1<<k, 1<<n-1-1<<k, 1<<n-1<<k)
	}
	return list
}

// anyStep is a step that is mostly one that does something.
func anyStep(r *rand.Rand, m model) step {
	place := func() uint64 {
		if r.Intn(20) == 0 {
			return []uint64{0, 1, m.first - 1, m.next() + 1}[r.Intn(4)]
		}
		return m.first + uint64(r.Intn(len(m.list)+1))
	}
	size := func() int { return []int{0, 1, r.Intn(30), r.Intn(300), r.Intn(700), 512, 513}[r.Intn(7)] }
	records := func(n int) [][]byte {
		var list [][]byte
		for range n {
			b := make([]byte, size())
			r.Read(b)
			list = append(list, b)
		}
		return list
	}
	switch k := r.Intn(100); {
	case k < 55:
		return step{kind: stepAppend, list: records([]int{0, 1, 1, 1, 1, 2, 3, r.Intn(60)}[r.Intn(8)])}
	case k < 57:
		return step{kind: stepAppend, list: append(records(2), make([]byte, api.MaxFrame-15))}
	case k < 70:
		return step{kind: stepSync}
	case k < 80:
		return step{kind: stepCut, n: place()}
	case k < 96:
		return step{kind: stepDrop, n: place()}
	}
	return step{kind: stepReset, n: []uint64{0, 1, 5, m.first, m.next(), m.next() + 5, r.Uint64()>>1 + 1}[r.Intn(7)]}
}

// P5.1 to P5.3: random calls, falls and rooms against the model.
func TestRandom(t *testing.T) {
	rounds := 60
	if testing.Short() {
		rounds = 20
	}
	for seed := range rounds {
		r := rand.New(rand.NewSource(int64(seed)))
		d, l := on(t, api.MaxDisk)
		m := model{state: state{first: 1}}
		for i := range 40 {
			what := "seed " + strconv.Itoa(seed) + ", step " + strconv.Itoa(i)
			d, l, m = randomStep(t, what, r, d, l, m)
			if t.Failed() {
				return
			}
		}
	}
}

// randomStep does a step, and a fall at times.
func randomStep(t *testing.T, what string, r *rand.Rand, d *disk.Disk, l *Log, m model) (*disk.Disk, *Log, model) {
	t.Helper()
	do(t, d.Fuse(max(0, r.Intn(30)-10)), d.Room([]int{api.MaxDisk, api.MaxDisk, api.MaxDisk, d.Used() + r.Intn(2000)}[r.Intn(4)]))
	masks := []uint64{0, 1<<64 - 1, r.Uint64(), r.Uint64() & r.Uint64(), r.Uint64() | r.Uint64()}
	torn := []int{-1, r.Intn(40), r.Intn(1000)}
	s := anyStep(r, m)
	what += ": " + s.String()
	before := d.Copy()
	was := m
	e := s.do(l)
	if no := m.refuses(s); no != api.OK {
		want(t, what, e, no)
		has(t, what+", refused", l, m.first, m.list...)
		return d, l, m
	}
	switch e {
	case api.OK:
		m = m.behind(s, l.First())
		has(t, what, l, m.first, m.list...)
		if s.kind == stepDrop {
			leaves(t, was.state, m.state, s.n)
		}
		if s.kind == stepSync || s.kind == stepCut {
			slim(t, d, l)
		}
	case api.ErrFull:
		// Ahead of it something may have been made sure.
		has(t, what+", no room", l, m.first, m.list...)
	case api.ErrDown:
		then := m.behind(s, firstOf(t, before, s))
		d, l, got := crash(t, what, d, masks, torn, m, then)
		return d, l, model{got, len(got.list)}
	default:
		t.Fatalf("%s: %d", what, e)
	}
	do(t, d.Fuse(0))
	if r.Intn(8) == 0 {
		d, l, got := crash(t, what+", a fall", d, masks, torn, m)
		return d, l, model{got, len(got.list)}
	}
	if r.Intn(8) == 0 {
		l = opened(t, d)
		has(t, what+", Open", l, m.first, m.list...)
	}
	return d, l, m
}
