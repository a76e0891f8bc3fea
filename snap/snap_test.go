package snap

import (
	"bytes"
	"math"
	"strconv"
	"testing"

	"scupper/api"
)

// want holds an error against the one that must be.
func want(t *testing.T, what string, got, e api.Errno) {
	t.Helper()
	if got != e {
		t.Errorf("%s: %d; want %d", what, got, e)
	}
}

// run is n bytes, those behind each other never alike.
func run(from, n int) []byte {
	b := make([]byte, n)
	for i := range b {
		b[i] = byte((from+i)%251 + 1)
	}
	return b
}

// cut is a piece that there must be.
func cut(t *testing.T, index, term uint64, data []byte, off int) Piece {
	t.Helper()
	p, e := Cut(index, term, data, off)
	if e != api.OK {
		t.Fatalf("Cut of %d at %d: %d", len(data), off, e)
	}
	return p
}

// piece is a piece of n bytes of place 5, term 2, that is not the last one.
func piece(off, n int) Piece { return Piece{Index: 5, Term: 2, Off: off, Data: run(off, n)} }

// last is a piece of n bytes of place 5, term 2, that is the last one.
func last(off, n int) Piece {
	p := piece(off, n)
	p.Last = true
	return p
}

// filled is a Joiner with n bytes of place 5, term 2.
func filled(t *testing.T, n int) *Joiner {
	t.Helper()
	j := New()
	for off := 0; off < n; off += api.MaxChunk {
		goesOn(t, "filling", j, piece(off, min(api.MaxChunk, n-off)), min(off+api.MaxChunk, n))
	}
	if n == 0 {
		goesOn(t, "filling", j, piece(0, 0), 0)
	}
	have(t, "filled", j, 5, 2, n)
	return j
}

// goesOn adds a piece that is taken, and is not the last one.
func goesOn(t *testing.T, what string, j *Joiner, p Piece, next int) {
	t.Helper()
	n, whole, done, e := j.Add(p)
	if n != next || whole != nil || done || e != api.OK {
		t.Fatalf("%s: %d, %d bytes, %v, %d; want %d", what, n, len(whole), done, e, next)
	}
}

// ends adds a last piece, and holds the snapshot against what it must be.
func ends(t *testing.T, what string, j *Joiner, p Piece, data []byte) {
	t.Helper()
	n, whole, done, e := j.Add(p)
	if n != len(data) || !bytes.Equal(whole, data) || !done || e != api.OK {
		t.Fatalf("%s: %d, %d bytes, %v, %d; want %d bytes", what, n, len(whole), done, e, len(data))
	}
	have(t, what+", done", j, 0, 0, 0)
}

// refused adds a piece that is not taken.
func refused(t *testing.T, what string, j *Joiner, p Piece, want api.Errno) {
	t.Helper()
	n, whole, done, e := j.Add(p)
	if n != 0 || whole != nil || done || e != want {
		t.Fatalf("%s: %d, %d bytes, %v, %d; want %d", what, n, len(whole), done, e, want)
	}
}

// have holds what a Joiner has against what that must be.
func have(t *testing.T, what string, j *Joiner, index, term uint64, n int) {
	t.Helper()
	if i, k, m := j.Have(); i != index || k != term || m != n {
		t.Fatalf("%s: Have is %d, %d, %d; want %d, %d, %d", what, i, k, m, index, term, n)
	}
}

// P7.1: pieces at each place, of data of sizes that are ends.
func TestCut(t *testing.T) {
	for _, size := range []int{0, 1, 2, 255, 256, 257, 300, 511, 512, 513, 600} {
		data := run(0, size)
		for off := range size + 1 {
			n := min(api.MaxChunk, size-off)
			p := cut(t, 7, 3, data, off)
			if p.Index != 7 || p.Term != 3 || p.Off != off || p.Last != (off+n == size) || !bytes.Equal(p.Data, data[off:off+n]) {
				t.Errorf("Cut of %d at %d: %d, %d, at %d, %d bytes, last %v", size, off, p.Index, p.Term, p.Off, len(p.Data), p.Last)
			}
		}
	}
}

// P7.1: the chapter's example.
func TestCutExample(t *testing.T) {
	data := run(0, 300)
	for _, c := range []struct {
		off, n int
		last   bool
	}{{0, 256, false}, {256, 44, true}, {300, 0, true}, {44, 256, true}, {43, 256, false}} {
		if p := cut(t, 1, 1, data, c.off); len(p.Data) != c.n || p.Last != c.last {
			t.Errorf("at %d: %d bytes, last %v; want %d, %v", c.off, len(p.Data), p.Last, c.n, c.last)
		}
	}
}

// P7.1: nothing but the place in data is asked: not which place of the log it is, and not how much data there is.
func TestCutOfAnything(t *testing.T) {
	for _, n := range []uint64{0, 1, 1 << 62, math.MaxUint64} {
		if p := cut(t, n, ^n, nil, 0); p.Index != n || p.Term != ^n || p.Off != 0 || !p.Last || len(p.Data) != 0 {
			t.Errorf("of nothing: %v", p)
		}
	}
	data := run(0, 1<<20)
	for _, off := range []int{0, api.MaxFrame / 2, api.MaxFrame, 1<<20 - 257} {
		if p := cut(t, 1, 1, data, off); p.Off != off || p.Last || !bytes.Equal(p.Data, data[off:off+256]) {
			t.Errorf("of much, at %d: at %d, %d bytes, last %v", off, p.Off, len(p.Data), p.Last)
		}
	}
}

// P7.1: places that data has not.
func TestCutRefused(t *testing.T) {
	for _, size := range []int{0, 1, 256, 300} {
		for _, off := range []int{-1, -256, math.MinInt, size + 1, size + 256, math.MaxInt} {
			p, e := Cut(5, 2, run(0, size), off)
			want(t, "Cut of "+strconv.Itoa(size)+" at "+strconv.Itoa(off), e, api.ErrArg)
			if p.Index != 0 || p.Term != 0 || p.Off != 0 || p.Last || p.Data != nil {
				t.Errorf("beside an error: %v", p)
			}
		}
	}
}

// P7.3: a piece shares nothing with the data that it is of.
func TestCutIsNotShared(t *testing.T) {
	room := run(0, 700)
	data := room[100:500:600]
	for _, off := range []int{0, 200, 400} {
		p := cut(t, 1, 1, data, off)
		was := bytes.Clone(p.Data)
		for i := range p.Data {
			p.Data[i] = 0
		}
		p.Data = append(p.Data, 0, 0, 0)
		if !bytes.Equal(room, run(0, 700)) {
			t.Fatal("a change of the piece changed the data")
		}
		p = cut(t, 1, 1, data, off)
		clear(room)
		if !bytes.Equal(p.Data, was) {
			t.Fatal("a change of the data changed the piece")
		}
		copy(room, run(0, 700))
	}
}

// P7.2, P2: the pieces of a snapshot of any size come to it, in as many as that needs.
func TestThereAndBack(t *testing.T) {
	for _, size := range []int{0, 1, 255, 256, 257, 300, 512, 600, 1000, api.MaxFrame/2 - 1, api.MaxFrame / 2} {
		data, j, count := run(0, size), New(), 0
		for off := 0; ; count++ {
			p := cut(t, 9, 4, data, off)
			if p.Last {
				ends(t, strconv.Itoa(size), j, p, data)
				break
			}
			off += api.MaxChunk
			goesOn(t, strconv.Itoa(size), j, p, off)
			have(t, strconv.Itoa(size), j, 9, 4, off)
		}
		if most := max(0, size-1) / api.MaxChunk; count != most {
			t.Errorf("%d bytes: %d pieces ahead of the last one; want %d", size, count, most)
		}
	}
}

// P7.2: the chapter's example, and behind it: what is done begins again from nothing.
func TestAddExample(t *testing.T) {
	data, j := run(0, 300), New()
	for range 2 {
		goesOn(t, "first", j, cut(t, 1, 1, data, 0), 256)
		ends(t, "second", j, cut(t, 1, 1, data, 256), data)
		refused(t, "third", j, cut(t, 1, 1, data, 300), api.ErrGap)
		have(t, "refused", j, 0, 0, 0)
	}
}

// P7.2: what may not be is ErrArg, ahead of all else, and changes nothing.
func TestErrArg(t *testing.T) {
	for _, p := range []Piece{
		{},
		{Term: 2, Data: run(0, 3)},
		{Term: 2, Off: 256, Data: run(256, 3), Last: true},
		{Index: 5, Term: 2, Off: -1},
		{Index: 5, Term: 2, Off: -1, Data: run(0, 256), Last: true},
		{Index: 5, Term: 2, Off: math.MinInt, Data: run(0, 1)},
		{Index: 6, Term: 2, Off: -1},
		{Index: 5, Term: 2, Data: run(0, 257)},
		{Index: 5, Term: 2, Off: 256, Data: run(256, 257), Last: true},
		{Index: 5, Term: 2, Off: 257, Data: run(0, 257)},
		{Index: 6, Term: 2, Off: 256, Data: run(0, 1<<20)},
		{Index: 5, Term: 2, Off: math.MaxInt, Data: run(0, 257)},
	} {
		refused(t, "of nothing", New(), p, api.ErrArg)
		j := filled(t, 256)
		refused(t, "of something", j, p, api.ErrArg)
		have(t, "refused", j, 5, 2, 256)
		ends(t, "it goes on", j, last(256, 9), run(0, 265))
	}
}

// P7.2: what does not follow is ErrGap, and changes nothing.
func TestErrGap(t *testing.T) {
	for _, n := range []int{0, 1, 256, 300} {
		for _, p := range []Piece{
			piece(n+1, 0), piece(n+1, 1), piece(n+256, 256), last(n+1, 0), last(n+1, 7), piece(math.MaxInt, 256), last(math.MaxInt, 256),
			// Of another snapshot: of another place, another term, or both.
			{Index: 6, Term: 2, Off: 1, Data: run(1, 1)},
			{Index: 5, Term: 3, Off: 1, Data: run(1, 1)},
			{Index: 5, Term: 1, Off: 1, Last: true},
			{Index: 2, Term: 5, Off: 1},
			{Index: 4, Term: 0, Off: n + 1, Data: run(1, 1)},
			{Index: math.MaxUint64, Term: math.MaxUint64, Off: math.MaxInt, Data: run(1, 256), Last: true},
		} {
			j := filled(t, n)
			refused(t, "a gap", j, p, api.ErrGap)
			have(t, "refused", j, 5, 2, n)
			ends(t, "it goes on", j, last(n, 3), run(0, n+3))
		}
	}
	for _, p := range []Piece{piece(1, 0), piece(1, 1), last(256, 44), piece(math.MaxInt, 256)} {
		j := New()
		refused(t, "of nothing", j, p, api.ErrGap)
		have(t, "of nothing", j, 0, 0, 0)
	}
}

// P7.2: a piece at 0 of another snapshot begins that, whatever there was.
func TestAnother(t *testing.T) {
	for _, c := range []Piece{
		{Index: 6, Term: 2, Data: run(9, 20)},
		{Index: 5, Term: 3, Data: run(9, 20)},
		{Index: 4, Term: 1, Data: run(9, 20)},
		{Index: 5, Term: 0, Data: run(9, 256)},
		{Index: 1, Term: math.MaxUint64},
		{Index: math.MaxUint64, Term: 2, Data: run(9, 1)},
	} {
		j := filled(t, 512)
		goesOn(t, "another one", j, c, len(c.Data))
		have(t, "another one", j, c.Index, c.Term, len(c.Data))
		refused(t, "the elder one", j, piece(256, 256), api.ErrGap)
		have(t, "the elder one", j, c.Index, c.Term, len(c.Data))
		more := Piece{Index: c.Index, Term: c.Term, Off: len(c.Data), Last: true, Data: run(0, 2)}
		ends(t, "another one", j, more, append(bytes.Clone(c.Data), more.Data...))

		j = filled(t, 512)
		c.Last = true
		ends(t, "another one, whole", j, c, c.Data)
	}
}

// P7.2: what it has already changes nothing, even if it has other bytes.
func TestAgain(t *testing.T) {
	for _, c := range []struct{ off, n int }{{0, 0}, {0, 1}, {0, 256}, {1, 255}, {1, 256}, {256, 256}, {300, 212}, {512, 0}, {511, 1}} {
		j := filled(t, 512)
		p := piece(c.off, c.n)
		for i := range p.Data {
			p.Data[i] = 0
		}
		goesOn(t, "again", j, p, 512)
		have(t, "again", j, 5, 2, 512)
		ends(t, "behind it", j, last(512, 5), run(0, 517))
	}
}

// P7.2: a piece that comes to more than there is takes the place of what is behind Off.
func TestOver(t *testing.T) {
	for _, c := range []struct{ off, n int }{{512, 1}, {512, 256}, {300, 213}, {300, 256}, {257, 256}, {511, 2}} {
		j := filled(t, 512)
		p := piece(c.off, c.n)
		for i := range p.Data {
			p.Data[i] ^= 0xff
		}
		goesOn(t, "over", j, p, c.off+c.n)
		have(t, "over", j, 5, 2, c.off+c.n)
		ends(t, "over", j, last(c.off+c.n, 0), append(run(0, c.off), p.Data...))
	}
}

// P7.2: a last piece ends the snapshot where it ends, also if there was more behind it, and takes the place of what was there.
func TestLast(t *testing.T) {
	for _, c := range []struct{ off, n int }{{0, 0}, {0, 1}, {0, 256}, {100, 3}, {256, 256}, {256, 255}, {300, 256}, {511, 1}, {512, 0}, {512, 1}, {512, 256}} {
		j := filled(t, 512)
		p := last(c.off, c.n)
		for i := range p.Data {
			p.Data[i] ^= 0xff
		}
		ends(t, "last", j, p, append(run(0, c.off), p.Data...))
		refused(t, "behind it", j, piece(c.off+c.n+1, 1), api.ErrGap)
		goesOn(t, "from the beginning", j, piece(0, 2), 2)
		ends(t, "from the beginning", j, last(2, 0), run(0, 2))
	}
	ends(t, "of nothing", New(), last(0, 0), nil)
	ends(t, "at once", New(), last(0, 256), run(0, 256))
}

// P7.2: more than a snapshot may have is ErrLarge, and leaves nothing.
func TestErrLarge(t *testing.T) {
	const most = api.MaxFrame / 2
	for _, c := range []struct{ off, n int }{{most, 1}, {most, 256}, {most - 255, 256}, {most - 1, 2}} {
		for _, p := range []Piece{piece(c.off, c.n), last(c.off, c.n)} {
			j := filled(t, most)
			refused(t, "too large", j, p, api.ErrLarge)
			have(t, "too large", j, 0, 0, 0)
			refused(t, "behind it", j, piece(most, 0), api.ErrGap)
			refused(t, "behind it", j, piece(1, 1), api.ErrGap)
			goesOn(t, "from the beginning", j, piece(0, 256), 256)
			ends(t, "from the beginning", j, last(256, 1), run(0, 257))
		}
	}
	for _, c := range []struct{ off, n int }{{most, 0}, {most - 1, 1}, {most - 256, 256}} {
		goesOn(t, "as large as may be", filled(t, most), piece(c.off, c.n), most)
		ends(t, "as large as may be", filled(t, most), last(c.off, c.n), run(0, most))
	}
	goesOn(t, "one byte less", filled(t, most-1), piece(most-1, 1), most)
	goesOn(t, "one byte less", filled(t, most-1), piece(most-256, 256), most)
	refused(t, "one byte less", filled(t, most-1), piece(most-1, 2), api.ErrLarge)
	refused(t, "ErrArg first", filled(t, most), piece(most, 257), api.ErrArg)
	refused(t, "ErrGap first", filled(t, most), piece(most+1, 1), api.ErrGap)
}

// P7.3: what a Joiner has, from nothing on.
func TestHave(t *testing.T) {
	j := New()
	have(t, "new", j, 0, 0, 0)
	goesOn(t, "no bytes", j, Piece{Index: 3, Term: 1}, 0)
	have(t, "nothing of something", j, 3, 1, 0)
	goesOn(t, "one byte", j, Piece{Index: 3, Term: 1, Data: run(0, 1)}, 1)
	have(t, "one byte", j, 3, 1, 1)
	goesOn(t, "of term 0", j, Piece{Index: 3, Data: run(0, 7)}, 7)
	have(t, "of term 0", j, 3, 0, 7)
}

// P7.3: no Joiner.
func TestNil(t *testing.T) {
	var j *Joiner
	for _, p := range []Piece{{}, piece(0, 1), piece(1, 1), piece(0, 257), last(0, 1), piece(api.MaxFrame, 256)} {
		refused(t, "nil", j, p, api.ErrArg)
	}
	have(t, "nil", j, 0, 0, 0)
}

// P7.3: nothing is kept of a piece, which stays as it is, and a snapshot is not shared.
func TestNothingIsShared(t *testing.T) {
	room := run(0, 400)
	j := New()
	goesOn(t, "first", j, Piece{Index: 5, Term: 2, Data: room[:100:300]}, 100)
	goesOn(t, "second", j, Piece{Index: 5, Term: 2, Off: 100, Data: room[100:200]}, 200)
	if !bytes.Equal(room, run(0, 400)) {
		t.Fatal("Add changed what was handed in")
	}
	clear(room)
	end := Piece{Index: 5, Term: 2, Off: 200, Last: true, Data: run(200, 50)}
	_, whole, _, _ := j.Add(end)
	if !bytes.Equal(whole, run(0, 250)) {
		t.Fatal("what was handed in is kept")
	}
	clear(end.Data)
	if !bytes.Equal(whole, run(0, 250)) {
		t.Fatal("the snapshot shares its last piece")
	}
	// The next snapshot of the same Joiner must not come over the last one, or the other way round.
	goesOn(t, "next", j, piece(0, 256), 256)
	clear(whole)
	whole = append(whole, 0, 0, 0)
	ends(t, "next", j, last(256, 0), run(0, 256))
	// A snapshot of one piece alone.
	one := last(0, 20)
	_, whole, _, _ = j.Add(one)
	clear(one.Data)
	if !bytes.Equal(whole, run(0, 20)) {
		t.Fatal("the snapshot shares its one piece")
	}
}

// P7.3: a Joiner that is copied as a value has nothing in common with the one that it was; a zero one works.
func TestValue(t *testing.T) {
	j := filled(t, 256)
	k := *j
	goesOn(t, "one", j, piece(256, 100), 356)
	other := piece(256, 100)
	clear(other.Data)
	goesOn(t, "the other", &k, other, 356)
	ends(t, "one", j, last(356, 1), run(0, 357))
	ends(t, "the other", &k, last(356, 0), append(run(0, 256), other.Data...))
	var zero Joiner
	have(t, "zero", &zero, 0, 0, 0)
	ends(t, "zero", &zero, last(0, 5), run(0, 5))
}
