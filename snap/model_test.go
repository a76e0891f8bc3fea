package snap

import (
	"bytes"
	"math"
	"math/rand"
	"strconv"
	"testing"

	"scupper/api"
)

// model is a Joiner as the chapter tells it, sentence by sentence.
type model struct {
	index, term uint64
	data        []byte
}

func (m *model) add(p Piece) (next int, whole []byte, done bool, e api.Errno) {
	if p.Index == 0 || p.Off < 0 || len(p.Data) > api.MaxChunk {
		return 0, nil, false, api.ErrArg
	}
	if m.index != p.Index || m.term != p.Term {
		if p.Off != 0 {
			return 0, nil, false, api.ErrGap
		}
		*m = model{index: p.Index, term: p.Term}
	}
	if p.Off > len(m.data) {
		return 0, nil, false, api.ErrGap
	}
	if p.Off+len(p.Data) <= len(m.data) && !p.Last {
		return len(m.data), nil, false, api.OK
	}
	m.data = append(bytes.Clone(m.data[:p.Off]), p.Data...)
	if len(m.data) > api.MaxFrame/2 {
		*m = model{}
		return 0, nil, false, api.ErrLarge
	}
	next = len(m.data)
	if p.Last {
		whole, done = m.data, true
		*m = model{}
	}
	return next, whole, done, api.OK
}

// anyPiece is a piece that often follows what there is.
func anyPiece(r *rand.Rand, m *model) Piece {
	n := len(m.data)
	p := Piece{
		Index: uint64(r.Intn(8)+12) / 8,
		Term:  uint64(r.Intn(10)+8) / 9,
		Off:   []int{n, n, n, n, n, r.Intn(n + 2), n - 256, n - 300, 0, n + 1, -1, math.MaxInt, math.MinInt}[r.Intn(13)],
		Last:  r.Intn(40) == 0,
		Data:  make([]byte, []int{256, 256, 256, 256, 255, 1, 0, 257, r.Intn(257), r.Intn(257)}[r.Intn(10)]),
	}
	if r.Intn(20) == 0 {
		p.Index = []uint64{0, math.MaxUint64}[r.Intn(2)]
	}
	// Mostly of what there is, so that it grows up to its end.
	if r.Intn(25) > 0 && m.index > 0 {
		p.Index, p.Term = m.index, m.term
	}
	r.Read(p.Data)
	return p
}

// P7.2, P7.3: random pieces against the model.
func TestRandom(t *testing.T) {
	var seen [api.ErrOrder + 1]int
	var wholes int
	for seed := range 200 {
		r := rand.New(rand.NewSource(int64(seed)))
		m, j := &model{}, New()
		if seed%2 == 0 {
			m.index, m.term = 5, 2
			m.data = run(0, api.MaxFrame/2-r.Intn(2000))
			j = filled(t, len(m.data))
		}
		for i := range 300 {
			what := "seed " + strconv.Itoa(seed) + ", step " + strconv.Itoa(i)
			p := anyPiece(r, m)
			next, whole, done, e := m.add(p)
			n, w, d, got := j.Add(p)
			if n != next || !bytes.Equal(w, whole) || d != done || got != e {
				t.Fatalf("%s: %d, %d bytes, %v, %d; want %d, %d bytes, %v, %d", what, n, len(w), d, got, next, len(whole), done, e)
			}
			have(t, what, j, m.index, m.term, len(m.data))
			seen[e]++
			if done {
				wholes++
			}
		}
	}
	for _, e := range []api.Errno{api.OK, api.ErrArg, api.ErrGap, api.ErrLarge} {
		if seen[e] < 20 {
			t.Errorf("the error %d came %d times alone", e, seen[e])
		}
	}
	if wholes < 20 {
		t.Errorf("%d snapshots alone were whole", wholes)
	}
}
