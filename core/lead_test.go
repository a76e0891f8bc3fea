package core

import (
	"fmt"
	"slices"
	"strings"
	"testing"

	"scupper/api"
)

// no is the answer of a node whose log is another one.
func no(from int, term, index, logTerm, round uint64) api.Msg {
	return api.Msg{Kind: api.Answer, From: from, Term: term, Index: index, LogTerm: logTerm, Round: round}
}

// led starts node 1 of three, which leads in term 1 since 10; nodes 2 and 3 have its first entry.
func led(t *testing.T) hand {
	t.Helper()
	h := leading(t, api.Hard{}, api.Shot{Conf: three})
	h.recv(yes(2, 1, 1, 1), 10, "")
	h.recv(yes(3, 1, 1, 1), 10, "")
	h.is("Leader of 1, t1 v1 c1, 0/0: 1/1-")
	return h
}

// P12.1: what is made goes to all peers; only what is of its own term is counted, and of those that vote.
func TestCount(t *testing.T) {
	h := leading(t, api.Hard{Term: 3}, api.Shot{Conf: of([]int{1, 2, 3, 4, 5}, 6)}, row(0, 1, 3)...)
	h.is("Leader of 1, t4 v1 c0, 0/0: 1/1=a 2/3=b 3/4-")
	for _, id := range []int{2, 3, 4} {
		h.recv(yes(id, 4, 2, 1), 10, fmt.Sprintf("Append>%d t4 2/3 r1 [3/4-]", id))
	}
	h.is("Leader of 1, t4 v1 c0, 0/0: 1/1=a 2/3=b 3/4-") // three have place 2, but that is of term 3
	h.recv(yes(6, 4, 3, 1), 10, "")
	h.recv(yes(6, 4, 3, 1), 10, "")
	h.recv(yes(2, 4, 3, 1), 10, "")
	h.recv(yes(2, 4, 3, 1), 10, "")
	h.is("Leader of 1, t4 v1 c0, 0/0: 1/1=a 2/3=b 3/4-") // two have place 3, and one that learns
	h.recv(yes(5, 4, 4, 1), 10, "")                      // no place of its log
	h.is("Leader of 1, t4 v1 c0, 0/0: 1/1=a 2/3=b 3/4-")
	h.recv(yes(2, 4, 1, 1), 10, "") // an elder answer takes nothing back
	h.recv(yes(5, 4, 3, 1), 10, "")
	h.is("Leader of 1, t4 v1 c3, 0/0: 1/1=a 2/3=b 3/4-")
}

// P12.1: Delta is how much its clock went on since its last entry, in one term.
func TestDelta(t *testing.T) {
	alone := api.Shot{Conf: of([]int{1})}
	h := start(t, 1, api.Hard{}, alone)
	h.advance(10, 0, "")
	h.propose("a", 13, 2, api.OK, "")
	h.propose("b", 13, 3, api.OK, "")
	h.propose("c", 9, 4, api.OK, "")
	h.propose("d", 20, 5, api.OK, "")
	h.advance(25, 0, "")
	h.change(1, 2, 26, 6, api.OK, "")
	h.is("Leader of 1, t1 v1 c6, 0/0: 1/1- 2/1=a+3 3/1=b 4/1=c 5/1=d+7 6/1{1|2}+6")
	h = start(t, 1, api.Hard{}, alone)
	h.advance(10, 0, "")
	h.propose("a", 10+api.MaxTerm, 2, api.OK, "")
	h.propose("b", 10+2*api.MaxTerm-1, 3, api.OK, "")
	h.propose("c", 1<<60, 4, api.OK, "")
	h.is("Leader of 1, t1 v1 c4, 0/0: 1/1- 2/1=a+1099511627776 3/1=b+1099511627775 4/1=c+1099511627776")
	// The first entry of the next term has none.
	h.recv(api.Msg{Kind: api.VoteAnswer, From: 2, Term: 8}, 1<<60+5, "")
	h.advance(1<<60+99, 0, "")
	h.is("Leader of 1, t9 v1 c5, 0/0: 1/1- 2/1=a+1099511627776 3/1=b+1099511627775 4/1=c+1099511627776 5/9-")
}

// P12.1: behind the greatest place no entry is made.
func TestGreatestPlace(t *testing.T) {
	last := fmt.Sprint(top)
	h := start(t, 1, api.Hard{Term: 5}, api.Shot{Index: top - 1, Term: 5, Conf: of([]int{1})})
	h.advance(10, 0, "")
	h.is(fmt.Sprintf("Leader of 1, t6 v1 c%d, %d/5: %d/6-", top, top-1, top))
	h.propose("x", 10, 0, api.ErrBusy, "")
	h.propose(strings.Repeat("x", api.MaxFrame/16+1), 10, 0, api.ErrLarge, "")
	h.change(1, 2, 10, 0, api.ErrBusy, "")
	h.read(4, false, 10, api.OK, "ready 4@"+last)
	h = start(t, 1, api.Hard{Term: 5}, api.Shot{Index: top, Term: 5, Conf: of([]int{1})})
	h.advance(10, 0, "")
	h.is("Leader of 1, t6 v1 c" + last + ", " + last + "/5:")
	h.propose("x", 10, 0, api.ErrBusy, "")
	h.change(1, 2, 10, 0, api.ErrBusy, "")
	h.read(4, false, 10, api.ErrBusy, "")
	// Of three: there is nothing but to beat.
	h = start(t, 1, api.Hard{Term: 5}, api.Shot{Index: top, Term: 5, Conf: three})
	h.c.Advance(10, 0)
	h.c.Recv(api.Msg{Kind: api.PreAnswer, From: 2, To: 1, Term: 6, OK: true}, 10, 0)
	h.recv(api.Msg{Kind: api.VoteAnswer, From: 2, Term: 6, OK: true}, 10, fmt.Sprintf("Append>2 t6 %d/5 c%d r1; Append>3 t6 %d/5 c%d r1", top, top, top, top))
	h.recv(yes(2, 6, top, 1), 10, "")
	h.is("Leader of 1, t6 v1 c" + last + ", " + last + "/5:")
}

// P12.1: to a peer that has not answered well yet goes one message at a time; to one that has, up to four, ahead of its answers.
func TestWindow(t *testing.T) {
	h := leading(t, api.Hard{}, api.Shot{Conf: of([]int{1, 2})})
	h.propose("a", 10, 2, api.OK, "")
	h.recv(yes(2, 1, 1, 1), 10, "Append>2 t1 1/1 c1 r1 [2/1=a]")
	h.propose("b", 10, 3, api.OK, "Append>2 t1 2/1 c1 r1 [3/1=b]")
	h.propose("c", 10, 4, api.OK, "Append>2 t1 3/1 c1 r1 [4/1=c]")
	h.propose("d", 10, 5, api.OK, "Append>2 t1 4/1 c1 r1 [5/1=d]")
	h.propose("e", 10, 6, api.OK, "")
	h.propose("f", 10, 7, api.OK, "")
	h.recv(yes(2, 1, 2, 1), 10, "Append>2 t1 5/1 c2 r1 [6/1=e 7/1=f]")
	h.propose("g", 10, 8, api.OK, "")
	// An answer to two at once takes one away: of the others it is not known what became of them.
	h.recv(yes(2, 1, 4, 1), 10, "Append>2 t1 7/1 c4 r1 [8/1=g]")
	h.propose("h", 10, 9, api.OK, "")
	// All is answered: none is on its way.
	h.recv(yes(2, 1, 8, 1), 10, "Append>2 t1 8/1 c8 r1 [9/1=h]")
	for i := range uint64(3) {
		h.propose("i", 10, 10+i, api.OK, fmt.Sprintf("Append>2 t1 %d/1 c8 r1 [%d/1=i]", 9+i, 10+i))
	}
	h.propose("j", 10, 13, api.OK, "")
	// A place that it was not sent yet: all up to there needs no sending.
	h.recv(yes(2, 1, 13, 1), 10, "")
	h.propose("k", 10, 14, api.OK, "Append>2 t1 13/1 c13 r1 [14/1=k]")
}

// P12.1: Flight does not go below 0.
func TestFlightNotBelow0(t *testing.T) {
	h := led(t)
	h.propose("a", 10, 2, api.OK, "Append>2 t1 1/1 c1 r1 [2/1=a]; Append>3 t1 1/1 c1 r1 [2/1=a]")
	for range 3 {
		h.recv(yes(2, 1, 1, 1), 10, "") // below what was sent
	}
	for i := range uint64(4) {
		want := fmt.Sprintf("Append>2 t1 %d/1 c1 r1 [%d/1=b]", 2+i, 3+i)
		if i < 3 {
			want += fmt.Sprintf("; Append>3 t1 %d/1 c1 r1 [%d/1=b]", 2+i, 3+i)
		}
		h.propose("b", 10, 3+i, api.OK, want)
	}
	h.propose("c", 10, 7, api.OK, "")
}

// P12.1: at most eight entries go at once.
func TestBatch(t *testing.T) {
	h := leading(t, api.Hard{}, api.Shot{Conf: of([]int{1, 2})})
	for i := range uint64(19) {
		h.propose("x", 10, 2+i, api.OK, "")
	}
	batch := func(first, n int) string {
		var words []string
		for i := range n {
			words = append(words, fmt.Sprintf("%d/1=x", first+i))
		}
		return "[" + strings.Join(words, " ") + "]"
	}
	h.recv(yes(2, 1, 1, 1), 10, "Append>2 t1 1/1 c1 r1 "+batch(2, 8))
	h.recv(api.Msg{Kind: api.ChunkNext, From: 2, Term: 1}, 10, "") // of the snapshot of place 0, which it does not lack
	h.recv(yes(2, 1, 1, 1), 10, "Append>2 t1 9/1 c1 r1 "+batch(10, 8))
	h.propose("x", 10, 21, api.OK, "Append>2 t1 17/1 c1 r1 "+batch(18, 4))
	// By a beat that it does not answer all begins anew; it is open no more, so what comes next is sent no earlier than it answers.
	h.advance(14, 0, "Append>2 t1 21/1 c1 r2")
	h.advance(18, 0, "Append>2 t1 1/1 c1 r3 "+batch(2, 8))
	h.propose("x", 18, 22, api.OK, "")
	h.recv(yes(2, 1, 9, 3), 18, "Append>2 t1 9/1 c9 r3 "+batch(10, 8))
	h.recv(yes(2, 1, 17, 3), 18, "Append>2 t1 17/1 c17 r3 [18/1=x 19/1=x 20/1=x 21/1=x 22/1=x+8]")
}

// P12.1: a leader beats as often as Beat says; a peer that answered anything since the last beat goes on as it was.
func TestBeat(t *testing.T) {
	h := leading(t, api.Hard{}, api.Shot{Conf: three})
	h.advance(13, 0, "")
	h.recv(no(2, 1, 50, 0, 0), 13, "") // it says nothing, but it is an answer
	h.advance(14, 0, "Append>2 t1 0/0 r2; Append>3 t1 0/0 r2 [1/1-]")
	h.advance(17, 0, "")
	h.recv(yes(2, 1, 1, 2), 17, "")
	h.advance(30, 0, "Append>2 t1 1/1 c1 r3; Append>3 t1 0/0 c1 r3 [1/1-]")
	h.advance(33, 0, "")
	h.advance(34, 0, "Append>2 t1 1/1 c1 r4; Append>3 t1 0/0 c1 r4 [1/1-]")
}

// P12.1: with a full window a beat is without entries.
func TestBeatInFullWindow(t *testing.T) {
	h := leading(t, api.Hard{}, api.Shot{Conf: of([]int{1, 2})})
	h.recv(yes(2, 1, 1, 1), 10, "")
	for i := range uint64(5) {
		h.c.Propose([]byte{'a' + byte(i)}, 10)
	}
	h.advance(14, 0, "Append>2 t1 5/1 c1 r2")
	h.recv(yes(2, 1, 1, 2), 14, "Append>2 t1 5/1 c1 r2 [6/1=e]")
	h.c.Propose([]byte("y"), 14)
	h.advance(18, 0, "Append>2 t1 6/1 c1 r3")
}

// P12.1: where a peer's log is another one, the leader goes back as far as both may be the same.
func TestRefused(t *testing.T) {
	for _, x := range []struct {
		index, logTerm uint64
		want           string
	}{
		{3, 1, "3/1 r1 [4/4=d 5/4=e 6/5=f 7/6-]"}, {6, 2, "3/1 r1 [4/4=d 5/4=e 6/5=f 7/6-]"}, {5, 3, "3/1 r1 [4/4=d 5/4=e 6/5=f 7/6-]"},
		{6, 5, "5/4 r1 [6/5=f 7/6-]"}, {4, 9, "4/4 r1 [5/4=e 6/5=f 7/6-]"}, {6, 4, "5/4 r1 [6/5=f 7/6-]"},
		{0, 0, "0/0 r1 [1/1=a 2/1=b 3/1=c 4/4=d 5/4=e 6/5=f 7/6-]"}, {2, 0, "0/0 r1 [1/1=a 2/1=b 3/1=c 4/4=d 5/4=e 6/5=f 7/6-]"}, {1, 1, "1/1 r1 [2/1=b 3/1=c 4/4=d 5/4=e 6/5=f 7/6-]"},
		{7, 6, ""}, {8, 6, ""}, {top, 1, ""}, // not below what is sent next
	} {
		h := leading(t, api.Hard{Term: 5}, api.Shot{Conf: three}, row(0, 1, 1, 1, 4, 4, 5)...)
		want := x.want
		if want != "" {
			want = "Append>2 t6 " + want
		}
		h.recv(no(2, 6, x.index, x.logTerm, 1), 10, want)
		// That is on its way then, and what is made is not sent before it is answered.
		h.propose("g", 10, 8, api.OK, "")
	}
}

// P12.1: it never goes back below what is known to be the same, and is not open any more then.
func TestRefusedAboveMatch(t *testing.T) {
	h := led(t)
	h.propose("a", 10, 2, api.OK, "Append>2 t1 1/1 c1 r1 [2/1=a]; Append>3 t1 1/1 c1 r1 [2/1=a]")
	h.propose("b", 10, 3, api.OK, "Append>2 t1 2/1 c1 r1 [3/1=b]; Append>3 t1 2/1 c1 r1 [3/1=b]")
	h.recv(no(2, 1, 3, 1, 1), 10, "Append>2 t1 2/1 c1 r1 [3/1=b]")
	h.recv(no(2, 1, 0, 0, 1), 10, "Append>2 t1 1/1 c1 r1 [2/1=a 3/1=b]")
	h.recv(no(2, 1, 1, 1, 1), 10, "Append>2 t1 1/1 c1 r1 [2/1=a 3/1=b]")
	h.recv(no(2, 1, 2, 1, 1), 10, "")
	h.propose("c", 10, 4, api.OK, "Append>3 t1 3/1 c1 r1 [4/1=c]")
	h.recv(yes(2, 1, 2, 1), 10, "Append>2 t1 2/1 c2 r1 [3/1=b 4/1=c]")
}

// P12.1: what comes from one that is no peer is nothing, whatever it says, nor what is of an elder term.
func TestNoPeer(t *testing.T) {
	h := led(t)
	h.propose("a", 10, 2, api.OK, "Append>2 t1 1/1 c1 r1 [2/1=a]; Append>3 t1 1/1 c1 r1 [2/1=a]")
	h.recv(yes(4, 1, 2, 1), 10, "")
	h.recv(yes(16, 1, 2, 1), 10, "")
	h.recv(yes(2, 0, 2, 1), 10, "")
	h.recv(api.Msg{Kind: api.ChunkNext, From: 4, Term: 1}, 10, "")
	h.is("Leader of 1, t1 v1 c1, 0/0: 1/1- 2/1=a")
	// And one that does not lead takes no answers.
	h = fresh(t)
	h.advance(10, 0, asked(1))
	h.recv(yes(2, 0, 0, 0), 10, "")
	h.recv(api.Msg{Kind: api.ChunkNext, From: 2}, 10, "")
	h.is("Early of 0, t0 v0 c0, 0/0:")
}

// shotOf is a snapshot of place 5, term 2, with so many data.
func shotOf(n int) api.Shot {
	data := []byte(strings.Repeat("x", n))
	for i := range data {
		data[i] = 'a' + byte(i/256)
	}
	return api.Shot{Index: 5, Term: 2, Conf: of([]int{1, 2}, 3), Data: data}
}

// next is a ChunkNext of node 2 in term 4.
func next(index uint64, off int) api.Msg {
	return api.Msg{Kind: api.ChunkNext, From: 2, Term: 4, Index: index, Off: off, Round: 1}
}

// lost starts node 1, which leads in term 4 behind a snapshot of so many data; node 2 has nothing of it, and was sent the first piece.
func lost(t *testing.T, n int, piece string) hand {
	t.Helper()
	h := leading(t, api.Hard{Term: 3}, shotOf(n), row(5, 3)...)
	h.recv(no(2, 4, 0, 0, 1), 10, "Append>2 t4 5/2 c5 r1 [6/3=a 7/4-]")
	h.recv(no(2, 4, 0, 0, 1), 10, "Chunk>2 t4 5/2 r1"+piece)
	return h
}

// P12.1: a peer that lacks what is gone is sent the snapshot, piece by piece.
func TestPieces(t *testing.T) {
	h := lost(t, 600, " {1,2|3} 256:a..a")
	h.propose("b", 10, 8, api.OK, "") // what is asked is not asked again
	h.recv(next(5, 256), 10, "Chunk>2 t4 5/2 r1 off256 {1,2|3} 256:b..b")
	h.recv(next(5, 256), 10, "Chunk>2 t4 5/2 r1 off256 {1,2|3} 256:b..b")
	h.recv(next(4, 0), 10, "") // of another snapshot
	h.recv(next(6, 0), 10, "")
	h.advance(14, 0, "Chunk>2 t4 5/2 r2 off256 {1,2|3} 256:b..b; Chunk>3 t4 5/2 r2 {1,2|3} 256:a..a") // by force; of node 3, which told nothing, it is not known that it has anything
	h.recv(next(5, 512), 14, "Chunk>2 t4 5/2 r2 off512 yes {1,2|3} 88:c..c")
	h.recv(next(5, 600), 14, "Chunk>2 t4 5/2 r2 off600 yes {1,2|3}")
	h.recv(next(5, 601), 14, "Chunk>2 t4 5/2 r2 {1,2|3} 256:a..a")
	h.recv(next(5, api.MaxFrame), 14, "Chunk>2 t4 5/2 r2 {1,2|3} 256:a..a")
	h.recv(next(5, 512), 14, "Chunk>2 t4 5/2 r2 off512 yes {1,2|3} 88:c..c")
	h.recv(yes(2, 4, 5, 2), 14, "Append>2 t4 5/2 c5 r2 [6/3=a 7/4- 8/4=b]")
	h.recv(yes(2, 4, 8, 2), 14, "")
	h.is("Leader of 1, t4 v1 c8, 5/2: 6/3=a 7/4- 8/4=b")
}

// P12.1: a small snapshot is one piece; one without data is a last piece of nothing.
func TestSmallPieces(t *testing.T) {
	lost(t, 0, " yes {1,2|3}")
	lost(t, 1, " yes {1,2|3} a")
	lost(t, 256, " yes {1,2|3} 256:a..a")
	h := lost(t, 257, " {1,2|3} 256:a..a")
	h.recv(next(5, 256), 10, "Chunk>2 t4 5/2 r1 off256 yes {1,2|3} b")
}

// P12.1: behind a beat that it did not answer, the piece is asked again.
func TestPieceAgain(t *testing.T) {
	h := lost(t, 600, " {1,2|3} 256:a..a")
	h.recv(next(5, 256), 10, "Chunk>2 t4 5/2 r1 off256 {1,2|3} 256:b..b")
	h.advance(14, 0, "Chunk>2 t4 5/2 r2 off256 {1,2|3} 256:b..b; Chunk>3 t4 5/2 r2 {1,2|3} 256:a..a")
	h.propose("b", 14, 8, api.OK, "")
	h.advance(18, 0, "Chunk>2 t4 5/2 r3 off256 {1,2|3} 256:b..b; Chunk>3 t4 5/2 r3 {1,2|3} 256:a..a")
}

// P12.1: an Off that comes while entries are sent is kept, till an Answer with OK.
func TestOffKept(t *testing.T) {
	h := leading(t, api.Hard{Term: 3}, shotOf(600), row(5, 3)...)
	h.recv(next(5, 256), 10, "")
	h.recv(no(2, 4, 0, 0, 1), 10, "Append>2 t4 5/2 c5 r1 [6/3=a 7/4-]")
	twin := hand{t, h.c.Copy(), 1}
	h.recv(no(2, 4, 0, 0, 1), 10, "Chunk>2 t4 5/2 r1 off256 {1,2|3} 256:b..b")
	twin.recv(yes(2, 4, 0, 1), 10, "Append>2 t4 5/2 c5 r1 [6/3=a 7/4-]")
	twin.recv(no(2, 4, 0, 0, 1), 10, "Append>2 t4 5/2 c5 r1 [6/3=a 7/4-]")
	twin.recv(no(2, 4, 0, 0, 1), 10, "Chunk>2 t4 5/2 r1 {1,2|3} 256:a..a")
	// A yes to less than what is gone has the piece sent again at once.
	h.recv(yes(2, 4, 3, 1), 10, "Chunk>2 t4 5/2 r1 {1,2|3} 256:a..a")
	h.recv(no(2, 4, 3, 0, 1), 10, "")
}

// P12.1: with another snapshot of the same log, a place that it does not have is none.
func TestOffOfElderShot(t *testing.T) {
	h := lost(t, 600, " {1,2|3} 256:a..a")
	h.recv(next(5, 512), 10, "Chunk>2 t4 5/2 r1 off512 yes {1,2|3} 88:c..c")
	h.keep(shotOf(500), api.OK)
	h.advance(14, 0, "Chunk>2 t4 5/2 r2 {1,2|3} 256:a..a; Chunk>3 t4 5/2 r2 {1,2|3} 256:a..a")
	h.recv(next(5, 500), 14, "Chunk>2 t4 5/2 r2 off500 yes {1,2|3}")
	h.recv(next(5, 501), 14, "Chunk>2 t4 5/2 r2 {1,2|3} 256:a..a")
	h.keep(shotOf(600), api.OK)
	h.c.Recv(api.Msg{Kind: api.Answer, From: 2, To: 1, Term: 4, Index: 99}, 14, 0)
	h.advance(18, 0, "Chunk>2 t4 5/2 r3 {1,2|3} 256:a..a; Chunk>3 t4 5/2 r3 {1,2|3} 256:a..a") // where that began, it goes on
	// When the log is gone up to a later place, that is sent.
	h = led(t)
	h.propose("a", 10, 2, api.OK, "Append>2 t1 1/1 c1 r1 [2/1=a]; Append>3 t1 1/1 c1 r1 [2/1=a]")
	h.recv(yes(3, 1, 2, 1), 10, "")
	h.keep(api.Shot{Index: 2, Term: 1, Conf: three, Data: []byte("two")}, api.OK)
	h.propose("b", 10, 3, api.OK, "Append>2 t1 2/1 c2 r1 [3/1=b]; Append>3 t1 2/1 c2 r1 [3/1=b]")
	h.advance(14, 0, "Append>2 t1 3/1 c2 r2; Append>3 t1 3/1 c2 r2")
	h.recv(yes(3, 1, 3, 2), 14, "")
	h.advance(18, 0, "Chunk>2 t1 2/1 r3 yes {1,2,3} two; Append>3 t1 3/1 c3 r3")
}

// P12.1, Read: a look waits for the next round, in which more than half tell that they still follow.
func TestRead(t *testing.T) {
	h := led(t)
	h.read(7, false, 11, api.OK, "Append>2 t1 1/1 c1 r2; Append>3 t1 1/1 c1 r2")
	h.read(5, false, 12, api.OK, "Append>2 t1 1/1 c1 r3; Append>3 t1 1/1 c1 r3")
	h.read(6, false, 12, api.OK, "Append>2 t1 1/1 c1 r4; Append>3 t1 1/1 c1 r4")
	h.read(4, false, 12, api.OK, "Append>2 t1 1/1 c1 r5; Append>3 t1 1/1 c1 r5")
	h.recv(yes(2, 1, 1, 6), 12, "") // no round yet
	h.recv(yes(2, 1, 1, 1), 12, "") // an elder one
	h.recv(yes(2, 1, 1, 3), 12, "ready 7@1; ready 5@1")
	h.recv(yes(3, 1, 1, 3), 12, "")
	h.recv(yes(2, 1, 1, 2), 12, "")
	h.recv(yes(3, 1, 1, 5), 12, "ready 6@1; ready 4@1")
	h.recv(yes(2, 1, 1, 5), 12, "")
	// It is answered by what was settled when it was asked.
	h.propose("a", 12, 2, api.OK, "Append>2 t1 1/1 c1 r5 [2/1=a+2]; Append>3 t1 1/1 c1 r5 [2/1=a+2]")
	h.read(7, false, 12, api.OK, "Append>2 t1 2/1 c1 r6; Append>3 t1 2/1 c1 r6")
	h.recv(yes(2, 1, 2, 6), 12, "ready 7@1")
	h.read(7, false, 12, api.OK, "Append>2 t1 2/1 c2 r7; Append>3 t1 1/1 c2 r7 [2/1=a+2]")
	h.read(7, false, 12, api.OK, "Append>2 t1 2/1 c2 r8; Append>3 t1 1/1 c2 r8 [2/1=a+2]") // an id may come again
	h.recv(no(3, 1, 50, 0, 8), 12, "ready 7@2; ready 7@2")                                 // a no tells that it follows as well
}

// P12.1: a ChunkNext tells that it follows too; and of five, two are needed.
func TestReadOfFive(t *testing.T) {
	h := leading(t, api.Hard{}, api.Shot{Conf: of([]int{1, 2, 3, 4, 5}, 6)})
	h.recv(yes(2, 1, 1, 1), 10, "")
	h.recv(yes(3, 1, 1, 1), 10, "")
	h.c.Read(9, false, 10)
	h.recv(yes(2, 1, 1, 2), 10, "")
	h.recv(yes(6, 1, 1, 2), 10, "")
	h.recv(yes(7, 1, 1, 2), 10, "")
	h.recv(yes(2, 1, 1, 1), 10, "") // an elder one takes nothing back
	h.recv(yes(2, 1, 1, 0), 10, "")
	h.recv(yes(2, 1, 1, 3), 10, "")
	h.recv(api.Msg{Kind: api.ChunkNext, From: 5, Term: 1, Index: 3, Round: 2}, 10, "ready 9@1")
}

// P12.1, Read: who can't be asked.
func TestReadErrors(t *testing.T) {
	h := fresh(t)
	h.read(1, false, 1, api.ErrLead, "")
	h.read(1, true, 1, api.ErrLead, "")
	h.advance(10, 0, asked(1))
	h.read(1, true, 10, api.ErrLead, "")
	h = leading(t, api.Hard{Term: 3}, api.Shot{Index: 5, Term: 3, Conf: three}, row(5, 3)...)
	for range 2 {
		h.read(1, false, 10, api.ErrBusy, "")
		h.read(1, true, 10, api.ErrBusy, "")
	}
	h.recv(yes(2, 4, 6, 1), 10, "Append>2 t4 6/3 c5 r1 [7/4-]")
	h.read(1, true, 10, api.ErrBusy, "")
	h.recv(yes(2, 4, 7, 1), 10, "")
	h.read(1, true, 10, api.OK, "ready 1@7")
}

// P12.1, Read: a lazy look trusts the clock, as far as Guard says, from when the last round began that is known.
func TestLazy(t *testing.T) {
	h := led(t)
	h.read(1, true, 19, api.OK, "ready 1@1")
	h.read(2, true, 20, api.OK, "Append>2 t1 1/1 c1 r2; Append>3 t1 1/1 c1 r2")
	h.recv(yes(2, 1, 1, 2), 25, "ready 2@1")
	h.read(3, true, 29, api.OK, "ready 3@1")
	h.read(4, true, 30, api.OK, "Append>2 t1 1/1 c1 r3; Append>3 t1 1/1 c1 r3")
	h.read(5, false, 31, api.OK, "Append>2 t1 1/1 c1 r4; Append>3 t1 1/1 c1 r4")
	h.recv(yes(2, 1, 1, 3), 33, "ready 4@1")
	h.read(6, true, 39, api.OK, "ready 6@1") // Heard is 30
	h.read(7, true, 40, api.OK, "Append>2 t1 1/1 c1 r5; Append>3 t1 1/1 c1 r5")
	h.recv(yes(3, 1, 1, 5), 49, "ready 5@1; ready 7@1") // Heard is 40
	h.read(8, true, 49, api.OK, "ready 8@1")
	h.read(9, true, 50, api.OK, "Append>2 t1 1/1 c1 r6; Append>3 t1 1/1 c1 r6")
	h.advance(54, 0, "Append>2 t1 1/1 c1 r7; Append>3 t1 1/1 c1 r7") // its own time tells it nothing
	h.read(9, true, 54, api.OK, "Append>2 t1 1/1 c1 r8; Append>3 t1 1/1 c1 r8")
	s := plain
	s.Rho = api.MaxRho // Guard of 10 is 4
	c, _ := New(1, api.Hard{}, api.Shot{Conf: of([]int{1})}, nil, s, 0, 0)
	h = hand{t, c, 1}
	h.advance(10, 0, "")
	h.read(0, true, 10, api.OK, "ready 0@1") // it alone: that needs no clock
	h.advance(10, 0, "")                     // one that leads hears itself
	h.change(1, 2, 10, 2, api.OK, "")
	h.change(2, 2, 10, 3, api.OK, "Append>2 t1 2/1 c2 r1 [3/1{1,2}]")
	h.recv(yes(2, 1, 3, 1), 10, "")
	h.read(1, true, 13, api.OK, "ready 1@3")
	h.read(2, true, 14, api.OK, "Append>2 t1 3/1 c3 r2")
}

// P12.1: a follower that hears of one that leads is sure by that, and so one that leads soon behind it.
func TestHeardStays(t *testing.T) {
	h := fresh(t)
	h.recv(api.Msg{Kind: api.Append, From: 2, Term: 1}, 8, "Answer>2 t1 0/0 yes")
	h.recv(api.Msg{Kind: api.Now, From: 2, Term: 1}, 9, "VoteAsk>2 t2 0/0 yes; VoteAsk>3 t2 0/0 yes")
	h.c.Recv(api.Msg{Kind: api.VoteAnswer, From: 2, To: 1, Term: 2, OK: true}, 9, 0)
	h.recv(yes(2, 2, 1, 0), 9, "")
	h.read(1, true, 17, api.OK, "ready 1@1")
	h.read(2, true, 18, api.OK, "Append>2 t2 1/2 c1 r2; Append>3 t2 0/0 c1 r2 [1/2-]")
}

// P12.1: a look is Lost when its node leads no more, in the order in which they were asked.
func TestLost(t *testing.T) {
	h := led(t)
	for _, id := range []uint64{4, 9, 2} {
		h.c.Read(id, false, 11)
	}
	twin := hand{t, h.c.Copy(), 1}
	h.recv(api.Msg{Kind: api.VoteAsk, From: 3, Term: 2, Index: 1, LogTerm: 1, OK: true}, 11, "VoteAnswer>3 t2 0/0 yes; lost 4; lost 9; lost 2")
	h.recv(api.Msg{Kind: api.VoteAsk, From: 3, Term: 3, Index: 1, LogTerm: 1, OK: true}, 11, "VoteAnswer>3 t3 0/0 yes")
	twin.advance(20, 0, "Append>2 t1 1/1 c1 r5; Append>3 t1 1/1 c1 r5")
	twin.advance(30, 0, "lost 4; lost 9; lost 2")
	twin.advance(40, 0, "PreAsk>2 t2 1/1; PreAsk>3 t2 1/1")
}

// P12.1: a leader whom not enough answer gives up; what was answered counts for one span of Base.
func TestCheck(t *testing.T) {
	h := leading(t, api.Hard{}, api.Shot{Conf: of([]int{1, 2, 3, 4, 5}, 6)})
	h.advance(19, 0, wordAll(2, 6, "t1 0/0 r2 [1/1-]"))
	for _, id := range []int{6, 2, 2, 9} { // one that learns, one twice, one that is none
		h.recv(no(id, 1, 50, 0, 0), 19, "")
	}
	twin := hand{t, h.c.Copy(), 1}
	h.advance(20, 3, "")
	h.is("Follower of 0, t1 v1 c0, 0/0: 1/1-")
	h.advance(32, 0, "")
	h.advance(33, 0, "PreAsk>2 t2 1/1; PreAsk>3 t2 1/1; PreAsk>4 t2 1/1; PreAsk>5 t2 1/1")
	h = twin
	h.recv(api.Msg{Kind: api.ChunkNext, From: 5, Term: 1, Index: 50}, 19, "")
	h.advance(20, 0, "")
	h.is("Leader of 1, t1 v1 c0, 0/0: 1/1-")
	h.advance(29, 0, "Append>2 t1 0/0 r3; Append>3 t1 0/0 r3 [1/1-]; Append>4 t1 0/0 r3 [1/1-]; Append>5 t1 0/0 r3; Append>6 t1 0/0 r3")
	h.advance(30, 0, "")
	h.is("Follower of 0, t1 v1 c0, 0/0: 1/1-")
}

// wordAll tells an Append to nodes one after the other.
func wordAll(first, last int, rest string) string {
	var words []string
	for id := first; id <= last; id++ {
		words = append(words, fmt.Sprintf("Append>%d %s", id, rest))
	}
	return strings.Join(words, "; ")
}

// P12.1: one who is a majority alone hears itself; and its rounds are known at once.
func TestAloneHears(t *testing.T) {
	h := start(t, 1, api.Hard{}, api.Shot{Conf: of([]int{1}, 2)})
	h.advance(10, 0, "Append>2 t1 0/0 c1 r1 [1/1-]")
	h.recv(yes(2, 1, 1, 1), 10, "")
	h.advance(14, 0, "Append>2 t1 1/1 c1 r2")
	h.advance(99, 0, "Append>2 t1 1/1 c1 r3")
	h.is("Leader of 1, t1 v1 c1, 0/0: 1/1-")
	h.advance(102, 0, "")
	h.recv(api.Msg{Kind: api.PreAsk, From: 2, Term: 9, Index: 9, LogTerm: 9}, 102, "PreAnswer>2 t1 0/0") // it is sure
	h.recv(yes(2, 1, 1, 3), 102, "")
	h.change(2, 2, 102, 2, api.OK, "Append>2 t1 1/1 c1 r3 [2/1{1,2}+92]")
	h.recv(yes(2, 1, 2, 3), 102, "") // round 3 was known already: Heard stays 102
	h.read(1, true, 111, api.OK, "ready 1@2")
	h.read(2, true, 112, api.OK, "Append>2 t1 2/1 c2 r4")
	h.recv(yes(2, 1, 2, 4), 112, "ready 2@2")
}

// P12.1, Propose: who can't, and what can't be.
func TestPropose(t *testing.T) {
	large := strings.Repeat("x", api.MaxFrame/16)
	h := fresh(t)
	h.propose("x", 1, 0, api.ErrLead, "")
	h.propose(large+"x", 1, 0, api.ErrLead, "")
	h = led(t)
	h.propose(large+"x", 10, 0, api.ErrLarge, "")
	h.propose("", 10, 2, api.OK, "Append>2 t1 1/1 c1 r1 [2/1=]; Append>3 t1 1/1 c1 r1 [2/1=]")
	if place, out, e := h.c.Propose([]byte(large), 10); place != 3 || e != api.OK || len(out.Msgs) != 2 || string(out.Msgs[1].Entries[0].Data) != large {
		t.Errorf("Propose of much: %d, %d, %d", place, len(out.Msgs), e)
	}
	h.give(2, 10, api.OK, "")
	h.propose("x", 10, 0, api.ErrBusy, "")
	h.propose(large+"x", 10, 0, api.ErrLarge, "")
}

// P12.1, Propose: at most 4096 entries stand behind what is settled.
func TestProposeAhead(t *testing.T) {
	h := led(t)
	for i := range uint64(4096) {
		if place, _, e := h.c.Propose(nil, 10); place != i+2 || e != api.OK {
			t.Fatalf("Propose: %d, %d", place, e)
		}
	}
	h.propose("x", 10, 0, api.ErrBusy, "")
	h.c.Recv(api.Msg{Kind: api.Answer, From: 3, To: 1, Term: 1, Index: 2, OK: true}, 10, 0)
	if place, _, e := h.c.Propose(nil, 10); place != 4098 || e != api.OK {
		t.Errorf("Propose: %d, %d", place, e)
	}
	h.propose("x", 10, 0, api.ErrBusy, "")
}

// P12.1, Give: who can't be given the lead.
func TestGiveErrors(t *testing.T) {
	h := fresh(t)
	h.give(2, 1, api.ErrLead, "")
	h.give(1, 1, api.ErrLead, "")
	h = leading(t, api.Hard{}, api.Shot{Conf: of([]int{1, 2, 3}, 4)})
	for _, id := range []int{1, 4, 5, 0, -1, 17, 1 << 40} {
		h.give(id, 10, api.ErrNone, "")
	}
	h.give(3, 10, api.OK, "")
	h.give(2, 10, api.ErrBusy, "")
	h.give(3, 10, api.ErrBusy, "")
	h.give(4, 10, api.ErrNone, "")
	h = led(t)
	h.give(3, 10, api.OK, "Now>3 t1 0/0")
	h.change(1, 9, 10, 0, api.ErrBusy, "")
	h.change(0, 9, 10, 0, api.ErrBusy, "")
}

// P12.1, Give: one that has all is asked to stand at once.
func TestGive(t *testing.T) {
	h := led(t)
	h.give(3, 11, api.OK, "Now>3 t1 0/0")
	h.read(1, false, 11, api.OK, "Append>2 t1 1/1 c1 r2; Append>3 t1 1/1 c1 r2") // looks go on
	h.recv(yes(3, 1, 1, 2), 11, "ready 1@1")                                     // it is asked once
	h.read(2, true, 11, api.OK, "Append>2 t1 1/1 c1 r3; Append>3 t1 1/1 c1 r3")  // but the clocks are trusted no more
	h.recv(yes(3, 1, 1, 3), 11, "ready 2@1")
	h.propose("a", 20, 0, api.ErrBusy, "")
	h.advance(20, 0, "Append>2 t1 1/1 c1 r4; Append>3 t1 1/1 c1 r4")
	h.propose("a", 20, 0, api.ErrBusy, "")
	h.advance(21, 0, "")
	h.propose("a", 21, 2, api.OK, "Append>2 t1 1/1 c1 r4 [2/1=a+11]; Append>3 t1 1/1 c1 r4 [2/1=a+11]")
	// It may stand at any time, so nothing is looked at lazily in this term.
	h.recv(yes(3, 1, 2, 4), 21, "")
	h.read(3, true, 21, api.OK, "Append>2 t1 1/1 c2 r5 [2/1=a+11]; Append>3 t1 2/1 c2 r5")
	// Another one is asked at once only if it has all; that of an answer is asked once a term.
	h.give(2, 22, api.OK, "")
	h.recv(yes(2, 1, 2, 5), 22, "ready 3@2")
	h.advance(31, 0, "Append>2 t1 2/1 c2 r6; Append>3 t1 2/1 c2 r6")
	h.advance(32, 0, "")
	h.recv(yes(3, 1, 2, 6), 32, "")
	h.give(2, 32, api.OK, "Now>2 t1 0/0")
}

// P12.1, Give: one that lacks something is asked to stand as soon as it has all.
func TestGiveLater(t *testing.T) {
	h := led(t)
	h.propose("a", 10, 2, api.OK, "Append>2 t1 1/1 c1 r1 [2/1=a]; Append>3 t1 1/1 c1 r1 [2/1=a]")
	h.give(3, 11, api.OK, "")
	h.read(1, true, 11, api.OK, "ready 1@1") // nobody was asked yet
	h.recv(yes(2, 1, 2, 1), 11, "")
	h.recv(yes(3, 1, 1, 1), 11, "")
	h.recv(no(3, 1, 2, 1, 1), 11, "Append>3 t1 1/1 c2 r1 [2/1=a]")
	h.read(2, true, 11, api.OK, "ready 2@2")
	h.recv(yes(3, 1, 2, 1), 12, "Now>3 t1 0/0")
	h.recv(yes(3, 1, 2, 1), 12, "")
	h.read(3, true, 12, api.OK, "Append>2 t1 2/1 c2 r2; Append>3 t1 2/1 c2 r2")
	h.is("Leader of 1, t1 v1 c2, 0/0: 1/1- 2/1=a")
	// The one that stands ends it.
	h.recv(api.Msg{Kind: api.VoteAsk, From: 3, Term: 2, Index: 2, LogTerm: 1, OK: true}, 12, "VoteAnswer>3 t2 0/0 yes; lost 3")
	h.is("Follower of 0, t2 v3 c2, 0/0: 1/1- 2/1=a")
}

// P12.1: who leads anew gives the lead to nobody, and has asked nobody.
func TestGiveIsForgotten(t *testing.T) {
	h := led(t)
	h.give(3, 11, api.OK, "Now>3 t1 0/0")
	h.c.Recv(api.Msg{Kind: api.VoteAnswer, From: 3, To: 1, Term: 2}, 11, 0)
	h.c.Recv(api.Msg{Kind: api.Now, From: 3, To: 1, Term: 2}, 11, 0)
	h.recv(api.Msg{Kind: api.VoteAnswer, From: 3, Term: 3, OK: true}, 11, "Append>2 t3 1/1 c1 r1 [2/3-]; Append>3 t3 1/1 c1 r1 [2/3-]")
	h.recv(yes(3, 3, 2, 1), 11, "")
	h.read(3, true, 11, api.OK, "ready 3@2")
	h.propose("a", 11, 3, api.OK, "Append>3 t3 2/3 c2 r1 [3/3=a]")
}

// P12.1, Change: what it is refused for, and what first.
func TestChangeErrors(t *testing.T) {
	h := fresh(t)
	h.change(1, 4, 1, 0, api.ErrLead, "")
	h.change(9, 4, 1, 0, api.ErrLead, "")
	h = leading(t, api.Hard{}, api.Shot{Conf: of([]int{1, 2, 3}, 4)})
	h.change(1, 5, 10, 0, api.ErrBusy, "") // nothing of its term is settled
	h.change(9, 5, 10, 0, api.ErrBusy, "")
	h.recv(yes(2, 1, 1, 1), 10, "")
	for _, x := range []struct {
		kind, id int
		want     api.Errno
	}{
		{0, 5, api.ErrArg}, {4, 5, api.ErrArg}, {-1, 5, api.ErrArg}, {1 << 40, 5, api.ErrArg}, {3, 1, api.ErrArg}, {0, 1, api.ErrArg},
		{1, 0, api.ErrArg}, {1, 17, api.ErrArg}, {2, 0, api.ErrArg}, {3, 17, api.ErrArg}, {3, -5, api.ErrArg},
		{1, 1, api.ErrThere}, {1, 2, api.ErrThere}, {1, 4, api.ErrThere},
		{2, 1, api.ErrNone}, {2, 2, api.ErrNone}, {2, 5, api.ErrNone}, {3, 5, api.ErrNone},
	} {
		h.change(x.kind, x.id, 10, 0, x.want, "")
	}
	h.is("Leader of 1, t1 v1 c1, 0/0: 1/1-")
	h.change(1, 5, 10, 2, api.OK, "Append>2 t1 1/1 c1 r1 [2/1{1,2,3|4|5}]")
	h.change(1, 6, 10, 0, api.ErrBusy, "") // that one is not settled
	h.change(9, 1, 10, 0, api.ErrBusy, "")
	h.recv(yes(2, 1, 2, 1), 10, "")
	h.change(3, 1, 10, 0, api.ErrArg, "")
	h.change(1, 6, 10, 3, api.OK, "Append>2 t1 2/1 c2 r1 [3/1{1,2,3|4|5|6}]; Append>5 t1 2/1 c2 r1 [3/1{1,2,3|4|5|6}]")
}

// P12.1, Change: an EntryConf of an elder leader that is not settled keeps others away too.
func TestChangeBehindElder(t *testing.T) {
	h := leading(t, api.Hard{Term: 1}, api.Shot{Conf: of([]int{1})}, row(0, 1)[0], confEntry(2, 1, of([]int{1, 2})))
	h.is("Leader of 1, t2 v1 c0, 0/0: 1/1=a 2/1{1,2} 3/2-")
	h.change(1, 5, 10, 0, api.ErrBusy, "")
	h.recv(yes(2, 2, 3, 1), 10, "")
	h.change(1, 5, 10, 4, api.OK, "Append>2 t2 3/2 c3 r1 [4/2{1,2|5}]")
}

// P12.1, Change: what comes holds at once: who is new is a peer, who left is none.
func TestChangePeers(t *testing.T) {
	h := led(t)
	h.change(1, 4, 10, 2, api.OK, "Append>2 t1 1/1 c1 r1 [2/1{1,2,3|4}]; Append>3 t1 1/1 c1 r1 [2/1{1,2,3|4}]")
	if got := wordConf(h.c.Conf()); got != "1,2,3|4" {
		t.Errorf("Conf: %s", got)
	}
	h.recv(yes(3, 1, 2, 1), 10, "")
	h.recv(no(2, 1, 50, 0, 0), 10, "")
	h.propose("a", 10, 3, api.OK, "Append>2 t1 2/1 c2 r1 [3/1=a]; Append>3 t1 2/1 c2 r1 [3/1=a]; Append>4 t1 2/1 c2 r1 [3/1=a]")
	h.recv(no(4, 1, 0, 0, 1), 10, "Append>4 t1 0/0 c2 r1 [1/1- 2/1{1,2,3|4} 3/1=a]")
	h.change(3, 2, 10, 4, api.OK, "Append>3 t1 3/1 c2 r1 [4/1{1,3|4}]")
	h.recv(yes(2, 1, 4, 1), 10, "")
	h.is("Leader of 1, t1 v1 c2, 0/0: 1/1- 2/1{1,2,3|4} 3/1=a 4/1{1,3|4}")
	h.recv(yes(4, 1, 4, 1), 10, "")
	h.is("Leader of 1, t1 v1 c2, 0/0: 1/1- 2/1{1,2,3|4} 3/1=a 4/1{1,3|4}")
	h.recv(yes(3, 1, 4, 1), 10, "")
	h.is("Leader of 1, t1 v1 c4, 0/0: 1/1- 2/1{1,2,3|4} 3/1=a 4/1{1,3|4}")
	// What is known of 4, which learned, is known when it votes.
	h.change(2, 4, 10, 5, api.OK, "Append>3 t1 4/1 c4 r1 [5/1{1,3,4}]; Append>4 t1 4/1 c4 r1 [5/1{1,3,4}]")
	h.recv(yes(4, 1, 5, 1), 10, "")
	h.is("Leader of 1, t1 v1 c5, 0/0: 1/1- 2/1{1,2,3|4} 3/1=a 4/1{1,3|4} 5/1{1,3,4}")
	h.advance(14, 0, "Append>3 t1 5/1 c5 r2; Append>4 t1 5/1 c5 r2")
	// One who comes back is a new peer.
	h.change(1, 2, 14, 6, api.OK, "Append>3 t1 5/1 c5 r2 [6/1{1,3,4|2}+4]; Append>4 t1 5/1 c5 r2 [6/1{1,3,4|2}+4]")
	h.recv(yes(4, 1, 6, 2), 14, "")
	h.advance(18, 0, "Append>2 t1 6/1 c6 r3; Append>3 t1 4/1 c6 r3 [5/1{1,3,4} 6/1{1,3,4|2}+4]; Append>4 t1 6/1 c6 r3")
}

// P12.1, Change: what is settled stays settled, though fewer of those who vote have it now.
func TestChangeTakesNothingBack(t *testing.T) {
	h := start(t, 1, api.Hard{}, api.Shot{Conf: of([]int{1}, 2)})
	h.advance(10, 0, "Append>2 t1 0/0 c1 r1 [1/1-]")
	h.recv(yes(2, 1, 1, 1), 10, "")
	h.propose("a", 10, 2, api.OK, "Append>2 t1 1/1 c2 r1 [2/1=a]")
	h.change(2, 2, 10, 3, api.OK, "Append>2 t1 2/1 c2 r1 [3/1{1,2}]")
	h.is("Leader of 1, t1 v1 c2, 0/0: 1/1- 2/1=a 3/1{1,2}")
	h.recv(yes(2, 1, 1, 1), 10, "")
	h.is("Leader of 1, t1 v1 c2, 0/0: 1/1- 2/1=a 3/1{1,2}")
}

// P12.1, Change: when half leave the other half alone, what they have counts at once.
func TestChangeCounts(t *testing.T) {
	h := leading(t, api.Hard{}, api.Shot{Conf: of([]int{1, 2})})
	h.recv(yes(2, 1, 1, 1), 10, "")
	h.read(9, false, 10, api.OK, "Append>2 t1 1/1 c1 r2")
	h.propose("a", 10, 2, api.OK, "Append>2 t1 1/1 c1 r2 [2/1=a]")
	h.change(3, 2, 10, 3, api.OK, "")
	h.is("Leader of 1, t1 v1 c3, 0/0: 1/1- 2/1=a 3/1{1}")
	h.read(8, false, 10, api.OK, "ready 8@3")
	h.change(1, 2, 10, 4, api.OK, "")
	h.is("Leader of 1, t1 v1 c4, 0/0: 1/1- 2/1=a 3/1{1} 4/1{1|2}")
	// A look that waits for a round that more than half reach is ready as soon as anybody answers.
	h.recv(no(2, 1, 50, 0, 0), 10, "ready 9@1")
}

// P12.2: what a leader sends is shared with nothing.
func TestSentIsNotShared(t *testing.T) {
	h := lost(t, 600, " {1,2|3} 256:a..a")
	out := h.c.Recv(api.Msg{Kind: api.ChunkNext, From: 2, To: 1, Term: 4, Index: 5, Round: 1}, 10, 0)
	out.Msgs[0].Data[0], out.Msgs[0].Conf.Voters[0] = 'z', 9
	h.recv(next(5, 0), 10, "Chunk>2 t4 5/2 r1 {1,2|3} 256:a..a")
	data := []byte("abc!")
	h = led(t)
	_, out, _ = h.c.Propose(data[:3], 10)
	data[0] = 'z'
	out.Msgs[0].Entries[0].Data[0] = 'y'
	if got := string(out.Msgs[1].Entries[0].Data); got != "abc" || data[3] != '!' {
		t.Errorf("it sends %s", got)
	}
	out.Msgs[1].Entries[0].Data[1] = 'x'
	h.is("Leader of 1, t1 v1 c1, 0/0: 1/1- 2/1=abc")
	_, out, _ = h.c.Change(1, 9, 10)
	for _, m := range out.Msgs {
		m.Entries[0].Data[1] = 7
	}
	if got := wordConf(h.c.Conf()); got != "1,2,3" && got != "1,2,3|9" {
		t.Errorf("Conf: %s", got)
	}
	h.c.Read(1, false, 10)
	twin := h.c.Copy()
	ready := h.c.Recv(api.Msg{Kind: api.Answer, From: 2, To: 1, Term: 1, Round: 2}, 10, 0).Ready
	if want := []Ready{{1, 1}}; !slices.Equal(ready, want) {
		t.Fatalf("ready: %v", ready)
	}
	ready[0].ID = 9
	if got := twin.Recv(api.Msg{Kind: api.Answer, From: 2, To: 1, Term: 1, Round: 2}, 10, 0).Ready; got[0].ID != 1 {
		t.Errorf("ready: %v", got)
	}
}
