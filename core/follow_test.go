package core

import (
	"bytes"
	"fmt"
	"math"
	"strings"
	"testing"

	"scupper/api"
)

// some starts node 1 of three in term 7, with entries 6 to 9 behind a shot of place 5; at 0, with nothing settled behind it.
func some(t *testing.T) hand {
	t.Helper()
	return start(t, 1, api.Hard{Term: 7, Vote: 3}, api.Shot{Index: 5, Term: 2, Conf: three, Data: []byte("five")}, row(5, 2, 4, 4, 7)...)
}

const someLog = "5/2: 6/2=a 7/4=b 8/4=c 9/7=d"

// entries makes an Append of node 2 in term 7.
func entries(index, logTerm, commit, round uint64, list ...api.Entry) api.Msg {
	return api.Msg{Kind: api.Append, From: 2, Term: 7, Index: index, LogTerm: logTerm, Commit: commit, Round: round, Entries: list}
}

// P12.1, Append: what comes of entries, of Commit, and the answer.
func TestAppend(t *testing.T) {
	for _, x := range []struct {
		index, logTerm, commit uint64
		list                   []api.Entry
		settled, last          uint64
		log                    string
	}{
		// No entries: up to Index at most is settled.
		{5, 2, 0, nil, 5, 5, someLog}, {5, 2, 9, nil, 5, 5, someLog}, {7, 4, 6, nil, 6, 7, someLog}, {7, 4, 7, nil, 7, 7, someLog}, {7, 4, 8, nil, 7, 7, someLog},
		{9, 7, math.MaxUint64, nil, 9, 9, someLog}, {9, 7, 3, nil, 5, 9, someLog},
		// What is there stays; what is settled ends where the message's entries end.
		{5, 2, 9, row(5, 2, 4), 7, 7, someLog}, {6, 2, 7, row(6, 4), 7, 7, someLog}, {5, 2, 6, row(5, 2, 4, 4, 7), 6, 9, someLog},
		// More.
		{9, 7, 5, row(9, 7), 5, 10, someLog + " 10/7=a"}, {9, 7, 12, row(9, 7, 7), 11, 11, someLog + " 10/7=a 11/7=b"}, {8, 4, 10, row(8, 7, 7, 7), 10, 11, someLog + " 10/7=b 11/7=c"},
		// Another one.
		{7, 4, 8, row(7, 7), 8, 8, "5/2: 6/2=a 7/4=b 8/7=a"}, {5, 2, 5, row(5, 3, 3), 5, 7, "5/2: 6/3=a 7/3=b"},
	} {
		h := some(t)
		h.recv(entries(x.index, x.logTerm, x.commit, 3, x.list...), 1, fmt.Sprintf("Answer>2 t7 %d/0 r3 yes", x.last))
		h.is(fmt.Sprintf("Follower of 2, t7 v3 c%d, %s", x.settled, x.log))
	}
}

// P12.1, Append: where the place is not there with its term: the place that may be.
func TestAppendGap(t *testing.T) {
	for _, x := range []struct {
		index, logTerm uint64
		want           string
	}{
		{10, 7, "9/7"}, {99, 7, "9/7"}, {9, 4, "8/4"}, {9, 6, "8/4"}, {8, 7, "8/4"}, {99, 3, "6/2"}, {7, 2, "6/2"}, {9, 1, "5/2"}, {6, 7, "6/2"}, {5, 1, "5/2"}, {top, top, "9/7"}, {5, 3, "5/2"},
	} {
		for _, list := range [][]api.Entry{nil, row(x.index, max(x.logTerm, 1))} {
			if x.index == top && list != nil || x.logTerm > 7 && list != nil {
				continue
			}
			h := some(t)
			h.recv(entries(x.index, x.logTerm, 99, 4, list...), 1, "Answer>2 t7 "+x.want+" r4")
			h.is("Follower of 2, t7 v3 c5, " + someLog)
		}
	}
}

// P12.1, Append: what is settled never changes; below it all is the same.
func TestAppendBelowCommit(t *testing.T) {
	h := some(t)
	h.recv(entries(8, 4, 8, 1), 1, "Answer>2 t7 8/0 r1 yes")
	for _, m := range []api.Msg{
		entries(7, 4, 9, 2), entries(7, 3, 9, 2), entries(0, 0, 9, 2, row(0, 1, 2)...), entries(7, 4, 9, 2, row(7, 7)...),
		entries(7, 4, 9, 2, row(7, 9)...),       // an entry's term is above Term
		entries(7, 4, 9, 2, row(99, 1)...),      // the list may not follow
		entries(4, 2, 9, 2, row(4, 2, 2, 4)...), // below the base
	} {
		h.recv(m, 1, "Answer>2 t7 8/0 r2 yes")
		h.is("Follower of 2, t7 v3 c8, " + someLog)
	}
	h.recv(entries(8, 4, 0, 2, row(8, 4)...), 1, "Answer>2 t7 9/0 r2 yes")
	h.is("Follower of 2, t7 v3 c8, 5/2: 6/2=a 7/4=b 8/4=c 9/4=a")
	h.recv(entries(8, 7, 9, 2), 1, "Answer>2 t7 8/4 r2")
	h.is("Follower of 2, t7 v3 c8, 5/2: 6/2=a 7/4=b 8/4=c 9/4=a")
}

// P12.1, Append: of a list that may not come nothing happens, but that it follows.
func TestAppendForm(t *testing.T) {
	for what, m := range map[string]api.Msg{
		"a term above Term":           entries(9, 7, 9, 1, row(9, 8)...),
		"a term above Term at last":   entries(9, 7, 9, 1, row(9, 7, 8)...),
		"a term above Term, amid":     entries(5, 2, 9, 1, row(5, 2, 8, 9)...),
		"a term above Term, in a gap": entries(20, 7, 9, 1, row(20, 8)...),
		"a place left out":            entries(9, 7, 9, 1, row(10, 7)...),
		"a place left out, in a gap":  entries(20, 7, 9, 1, row(30, 7)...),
		"terms that fall":             entries(9, 7, 9, 1, row(9, 7, 6)...),
		"a term below LogTerm":        entries(9, 7, 9, 1, row(9, 6)...),
		"a gap's term below LogTerm":  entries(9, 9, 9, 1, row(9, 7)...),
	} {
		h := some(t)
		h.recv(m, 4, "")
		if got := wordCore(h.c); got != "Follower of 2, t7 v3 c5, "+someLog {
			t.Errorf("%s: %s", what, got)
		}
		h.advance(13, 0, "")
		h.advance(14, 0, "PreAsk>2 t8 9/7; PreAsk>3 t8 9/7")
	}
}

// P12.1: whom it follows; what it heard puts off what it would do.
func TestFollow(t *testing.T) {
	h := some(t)
	h.recv(entries(9, 7, 0, 1), 6, "Answer>2 t7 9/0 r1 yes")
	m := entries(9, 7, 0, 2)
	m.From = 16 // it does not ask who may lead
	h.recv(m, 8, "Answer>16 t7 9/0 r2 yes")
	h.is("Follower of 16, t7 v3 c5, " + someLog)
	h.advance(17, 0, "")
	h.advance(18, 0, "PreAsk>2 t8 9/7; PreAsk>3 t8 9/7")
	h.recv(m, 18, "Answer>16 t7 9/0 r2 yes")
	h.is("Follower of 16, t7 v3 c5, " + someLog)
	// One that is Early is none any more, and its yes are gone.
	h.recv(api.Msg{Kind: api.PreAnswer, From: 2, Term: 8, OK: true}, 18, "")
	h.advance(28, 0, "PreAsk>2 t8 9/7; PreAsk>3 t8 9/7")
	h.recv(api.Msg{Kind: api.PreAnswer, From: 2, Term: 8, OK: true}, 28, "VoteAsk>2 t8 9/7; VoteAsk>3 t8 9/7")
	m.Term = 8
	h.recv(m, 28, "Answer>16 t8 9/0 r2 yes")
	h.is("Follower of 16, t8 v1 c5, " + someLog)
	h.recv(api.Msg{Kind: api.VoteAnswer, From: 2, Term: 8, OK: true}, 28, "")
	h.is("Follower of 16, t8 v1 c5, " + someLog)
}

// P12.1: a leader follows no other one of its term.
func TestLeaderFollowsNobody(t *testing.T) {
	h := leading(t, api.Hard{}, api.Shot{Conf: three})
	h.recv(api.Msg{Kind: api.Append, From: 2, Term: 1, Entries: row(0, 1)}, 11, "")
	h.recv(api.Msg{Kind: api.Chunk, From: 2, Term: 1, Index: 7, LogTerm: 1, OK: true, Conf: three}, 11, "")
	h.is("Leader of 1, t1 v1 c0, 0/0: 1/1-")
}

// P12.1: configurations count as soon as they stand in the log, and as long.
func TestAppendConf(t *testing.T) {
	h := some(t)
	conf := func(want string) {
		t.Helper()
		if got := wordConf(h.c.Conf()); got != want {
			t.Errorf("Conf: %s; want %s", got, want)
		}
	}
	two, four := of([]int{1, 2}), of([]int{1, 2, 3}, 4)
	h.recv(entries(9, 7, 0, 1, confEntry(10, 7, four), row(10, 7)[0], confEntry(12, 7, two), row(12, 7)[0]), 1, "Answer>2 t7 13/0 r1 yes")
	conf("1,2")
	h.recv(entries(12, 7, 0, 1, row(12, 7)...), 1, "Answer>2 t7 13/0 r1 yes")
	conf("1,2")
	m := entries(11, 7, 0, 1, row(11, 8)...)
	m.Term = 8
	h.recv(m, 1, "Answer>2 t8 12/0 r1 yes")
	conf("1,2,3|4")
	m = entries(12, 8, 0, 1, confEntry(13, 8, of([]int{1}, 9)))
	m.Term = 8
	h.recv(m, 1, "Answer>2 t8 13/0 r1 yes")
	conf("1|9")
	m = entries(9, 7, 0, 1, row(9, 8, 8, 8, 8, 8)...)
	m.Term = 8
	h.recv(m, 1, "Answer>2 t8 14/0 r1 yes")
	conf("1,2,3")
}

// chunk makes a Chunk of node 2 in term 7.
func chunk(index, logTerm uint64, off int, last bool, data string) api.Msg {
	return api.Msg{Kind: api.Chunk, From: 2, Term: 7, Index: index, LogTerm: logTerm, Round: 6, OK: last, Conf: of([]int{2, 5}, 1), Off: off, Data: []byte(data)}
}

// P12.1, Chunk: a snapshot in pieces comes to be its own.
func TestChunk(t *testing.T) {
	h := some(t)
	h.recv(chunk(20, 5, 0, false, "abc"), 6, "ChunkNext>2 t7 20/0 r6 off3")
	h.is("Follower of 2, t7 v3 c5, " + someLog)
	h.recv(chunk(20, 5, 0, false, "abc"), 6, "ChunkNext>2 t7 20/0 r6 off3")
	h.recv(chunk(20, 5, 3, false, "def"), 6, "ChunkNext>2 t7 20/0 r6 off6")
	h.recv(chunk(20, 5, 0, false, "abc"), 6, "ChunkNext>2 t7 20/0 r6 off6")
	h.recv(chunk(20, 5, 6, true, "g"), 7, "Answer>2 t7 20/0 r6 yes; shot")
	h.is("Follower of 2, t7 v3 c20, 20/5:")
	if got := fmt.Sprint(h.c.Shot()); got != fmt.Sprint(api.Shot{Index: 20, Term: 5, Conf: of([]int{2, 5}, 1), Data: []byte("abcdefg")}) {
		t.Errorf("Shot: %s", got)
	}
	if got := wordConf(h.c.Conf()); got != "2,5|1" {
		t.Errorf("Conf: %s", got)
	}
	// It is settled now, and the joiner has nothing any more.
	h.recv(chunk(20, 5, 6, true, "g"), 7, "Answer>2 t7 20/0 r6 yes")
	h.recv(chunk(21, 5, 6, true, "g"), 7, "ChunkNext>2 t7 21/0 r6")
	h.recv(chunk(21, 5, 0, true, ""), 7, "Answer>2 t7 21/0 r6 yes; shot")
	h.is("Follower of 2, t7 v3 c21, 21/5:")
	h.recv(entries(21, 5, 22, 1, row(21, 7)...), 7, "Answer>2 t7 22/0 r1 yes")
	h.is("Follower of 2, t7 v3 c22, 21/5: 22/7=a")
}

// P12.1, Chunk: a last piece at the end of another place's is no end of it.
func TestChunkOfAnother(t *testing.T) {
	h := some(t)
	h.recv(chunk(20, 5, 0, false, "abc"), 6, "ChunkNext>2 t7 20/0 r6 off3")
	h.recv(chunk(21, 5, 3, true, "d"), 6, "ChunkNext>2 t7 21/0 r6")
	h.recv(chunk(20, 6, 3, true, "d"), 6, "ChunkNext>2 t7 20/0 r6")
	h.recv(chunk(20, 5, 4, true, "d"), 6, "ChunkNext>2 t7 20/0 r6")
	h.recv(chunk(20, 5, 3, true, "d"), 6, "Answer>2 t7 20/0 r6 yes; shot")
	if got := string(h.c.Shot().Data); got != "abcd" {
		t.Errorf("Data: %s", got)
	}
}

// P12.1, Chunk: what is settled stays; a place that the log has is settled by that alone.
func TestChunkOfWhatIsThere(t *testing.T) {
	h := some(t)
	h.recv(chunk(5, 2, 0, true, "x"), 6, "Answer>2 t7 5/0 r6 yes")
	h.recv(chunk(3, 1, 0, true, "x"), 6, "Answer>2 t7 5/0 r6 yes")
	h.is("Follower of 2, t7 v3 c5, " + someLog)
	h.recv(chunk(7, 4, 0, false, "x"), 6, "Answer>2 t7 7/0 r6 yes")
	h.is("Follower of 2, t7 v3 c7, " + someLog)
	h.recv(chunk(7, 2, 0, true, "x"), 6, "Answer>2 t7 7/0 r6 yes")
	if got := string(h.c.Shot().Data); got != "five" {
		t.Errorf("Data: %s", got)
	}
	// A place with another term takes all away.
	h.recv(chunk(8, 5, 0, true, "x"), 6, "Answer>2 t7 8/0 r6 yes; shot")
	h.is("Follower of 2, t7 v3 c8, 8/5:")
}

// P12.1, Chunk: what has no place or a term that may not be is nothing, but that it follows.
func TestChunkNothing(t *testing.T) {
	for _, m := range []api.Msg{chunk(0, 5, 0, true, "x"), chunk(20, 0, 0, true, "x"), chunk(20, 8, 0, true, "x"), chunk(0, 0, 0, true, "x"), chunk(5, 0, 0, true, "x"), chunk(3, 8, 0, true, "x")} {
		h := some(t)
		h.recv(m, 4, "")
		h.is("Follower of 2, t7 v3 c5, " + someLog)
		h.advance(13, 0, "")
		h.advance(14, 0, "PreAsk>2 t8 9/7; PreAsk>3 t8 9/7")
	}
	h := some(t)
	h.recv(chunk(20, 7, 0, true, "x"), 4, "Answer>2 t7 20/0 r6 yes; shot")
	h.is("Follower of 2, t7 v3 c20, 20/7:")
}

// P12.1, Chunk: as many bytes as may be come together, and not one more.
func TestChunkLarge(t *testing.T) {
	h := some(t)
	piece := strings.Repeat("p", api.MaxChunk)
	n := api.MaxFrame / 2
	for off := 0; off < n; off += len(piece) {
		h.recv(chunk(20, 5, off, false, piece), 4, fmt.Sprintf("ChunkNext>2 t7 20/0 r6 off%d", off+len(piece)))
	}
	twin := hand{t, h.c.Copy(), 1}
	h.recv(chunk(20, 5, n, false, "x"), 4, "ChunkNext>2 t7 20/0 r6")
	h.recv(chunk(20, 5, n, true, ""), 4, "ChunkNext>2 t7 20/0 r6")
	h.is("Follower of 2, t7 v3 c5, " + someLog)
	twin.recv(chunk(20, 5, n, true, ""), 4, "Answer>2 t7 20/0 r6 yes; shot")
	if got := twin.c.Shot().Data; !bytes.Equal(got, bytes.Repeat([]byte("p"), n)) {
		t.Errorf("Data: %d bytes", len(got))
	}
}

// P12.2: what a snapshot came in is not kept, and two copies join by themselves.
func TestChunkShared(t *testing.T) {
	h := some(t)
	m := chunk(20, 5, 0, false, "abc")
	h.recv(m, 4, "ChunkNext>2 t7 20/0 r6 off3")
	m.Data[0], m.Conf.Voters[0] = 'x', 9
	twin := hand{t, h.c.Copy(), 1}
	twin.recv(chunk(20, 5, 3, true, "z"), 4, "Answer>2 t7 20/0 r6 yes; shot")
	m = chunk(20, 5, 3, true, "d")
	h.recv(m, 4, "Answer>2 t7 20/0 r6 yes; shot")
	m.Data[0], m.Conf.Voters[0] = 'x', 9
	if got := fmt.Sprintln(string(h.c.Shot().Data), string(twin.c.Shot().Data), wordConf(h.c.Conf()), wordConf(h.c.Shot().Conf)); got != "abcd abcz 2,5|1 2,5|1\n" {
		t.Errorf("it has %s", got)
	}
	list := row(20, 7)
	h.recv(entries(20, 5, 0, 1, list...), 4, "Answer>2 t7 21/0 r1 yes")
	list[0].Data[0] = 'x'
	h.is("Follower of 2, t7 v3 c20, 20/5: 21/7=a")
}

// P12.1, Keep: a snapshot of its own log takes the place of what is up to there.
func TestKeep(t *testing.T) {
	h := some(t)
	h.recv(entries(9, 7, 8, 1, confEntry(10, 7, of([]int{1, 2})), confEntry(11, 7, of([]int{1, 2}, 9))), 1, "Answer>2 t7 11/0 r1 yes")
	h.recv(entries(11, 7, 10, 1), 1, "Answer>2 t7 11/0 r1 yes")
	const log = "6/2=a 7/4=b 8/4=c 9/7=d 10/7{1,2} 11/7{1,2|9}"
	h.is("Follower of 2, t7 v3 c10, 5/2: " + log)
	shot := func(i, term uint64, c api.Conf) api.Shot {
		return api.Shot{Index: i, Term: term, Conf: c, Data: []byte("new")}
	}
	two := of([]int{1, 2})
	h.keep(shot(8, 4, api.Conf{}), api.ErrForm)
	h.keep(shot(99, 0, two), api.ErrForm)
	h.keep(shot(0, 0, three), api.ErrArg) // below the base
	h.keep(shot(4, 2, three), api.ErrArg)
	h.keep(shot(11, 7, of([]int{1, 2}, 9)), api.ErrArg) // above Commit
	h.keep(shot(12, 7, of([]int{1, 2}, 9)), api.ErrArg)
	h.keep(shot(top, top, of([]int{1, 2}, 9)), api.ErrArg)
	h.keep(shot(8, 2, three), api.ErrArg) // not the place's term
	h.keep(shot(8, 7, three), api.ErrArg)
	h.keep(shot(8, 4, two), api.ErrArg) // the conf is of a later place
	h.keep(shot(8, 4, of([]int{1, 2, 3}, 4)), api.ErrArg)
	h.keep(shot(10, 7, three), api.ErrArg) // the conf is of an elder place
	h.keep(shot(10, 7, of([]int{1, 2}, 9)), api.ErrArg)
	h.is("Follower of 2, t7 v3 c10, 5/2: " + log)
	h.keep(shot(5, 2, three), api.OK) // the place that it has one of
	h.is("Follower of 2, t7 v3 c10, 5/2: " + log)
	h.keep(shot(8, 4, three), api.OK)
	h.is("Follower of 2, t7 v3 c10, 8/4: " + log[len("6/2=a 7/4=b 8/4=c "):])
	h.keep(shot(5, 2, three), api.ErrArg)
	kept := shot(10, 7, two)
	h.keep(kept, api.OK)
	kept.Data[0], kept.Conf.Voters[0] = 'x', 9
	h.is("Follower of 2, t7 v3 c10, 10/7: 11/7{1,2|9}")
	if got := fmt.Sprint(h.c.Shot()); got != fmt.Sprint(shot(10, 7, of([]int{1, 2}))) {
		t.Errorf("Shot: %s", got)
	}
	// With the last one gone, it is that of the shot.
	m := entries(10, 7, 10, 1, row(10, 8)...)
	m.Term = 8
	h.recv(m, 1, "Answer>2 t8 11/0 r1 yes")
	if got := wordConf(h.c.Conf()); got != "1,2" {
		t.Errorf("Conf: %s", got)
	}
}

// P12.1, Keep: at place 0 too.
func TestKeepNothing(t *testing.T) {
	h := fresh(t)
	h.keep(api.Shot{Conf: three, Data: []byte("none")}, api.OK)
	h.keep(api.Shot{Index: 1, Term: 1, Conf: three}, api.ErrArg)
	if got := string(h.c.Shot().Data); got != "none" {
		t.Errorf("Data: %s", got)
	}
	h.is("Follower of 0, t0 v0 c0, 0/0:")
}
