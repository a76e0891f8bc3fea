package core

import (
	"fmt"
	"math"
	"testing"

	"scupper/api"
)

// asked is what node 1 of three sends when it asks early in a term, with nothing in its log.
func asked(term int) string {
	return fmt.Sprintf("PreAsk>2 t%d 0/0; PreAsk>3 t%d 0/0", term, term)
}

// P12.1: wait is Base and what is drawn, modulo Spread + 1; New and Advance draw it.
func TestWait(t *testing.T) {
	for draw, wait := range map[uint64]int64{0: 10, 1: 11, 5: 15, 6: 10, 11: 15, 12: 10, math.MaxUint64: 10 + 3, 1 << 63: 10 + 2} {
		c, _ := New(1, api.Hard{}, api.Shot{Conf: three}, nil, plain, 7, draw)
		h := hand{t, c, 1}
		h.advance(7+wait-1, 0, "")
		h.advance(7+wait, draw, asked(1))
		h.advance(7+2*wait-1, draw, "")
		h.advance(7+2*wait, draw, asked(1))
	}
	wide := api.Setting{Base: 1 << 30, Spread: 1 << 30, Beat: 1}
	c, _ := New(1, api.Hard{}, api.Shot{Conf: three}, nil, wide, 5, 1<<30)
	h := hand{t, c, 1}
	h.advance(5+1<<31-1, 0, "")
	h.advance(5+1<<31, 0, asked(1))
}

// P12.1, New: one that starts is sure for Base: it may have promised somebody not to vote.
func TestSureAtFirst(t *testing.T) {
	c, _ := New(1, api.Hard{}, api.Shot{Conf: three}, nil, plain, 7, 5)
	h := hand{t, c, 1}
	ask := api.Msg{Kind: api.PreAsk, From: 2, Term: 1}
	h.recv(ask, 7, "PreAnswer>2 t0 0/0")
	h.recv(ask, 16, "PreAnswer>2 t0 0/0")
	h.recv(ask, 17, "PreAnswer>2 t1 0/0 yes")
}

// P12.1: one that is Early, or a Candidate, and had no luck, asks early again.
func TestAskAgain(t *testing.T) {
	h := fresh(t)
	h.advance(12, 2, asked(1))
	h.is("Early of 0, t0 v0 c0, 0/0:")
	h.advance(24, 0, asked(1))
	h.recv(api.Msg{Kind: api.PreAnswer, From: 3, Term: 1, OK: true}, 25, "VoteAsk>2 t1 0/0; VoteAsk>3 t1 0/0")
	h.advance(34, 0, "")
	h.advance(35, 0, asked(2))
	h.is("Early of 0, t1 v1 c0, 0/0:")
	// The yes of the election before is not one of this.
	h.recv(api.Msg{Kind: api.VoteAnswer, From: 2, Term: 1, OK: true}, 35, "")
	h.recv(api.Msg{Kind: api.PreAnswer, From: 2, Term: 2, OK: true}, 35, "VoteAsk>2 t2 0/0; VoteAsk>3 t2 0/0")
	h.is("Candidate of 0, t2 v1 c0, 0/0:")
}

// P12.1: it follows nobody when it asks early.
func TestAskFollowsNobody(t *testing.T) {
	h := fresh(t)
	h.recv(api.Msg{Kind: api.Append, From: 3, Term: 2}, 5, "Answer>3 t2 0/0 yes")
	h.is("Follower of 3, t2 v0 c0, 0/0:")
	h.advance(14, 0, "")
	h.advance(15, 0, asked(3))
	h.is("Early of 0, t2 v0 c0, 0/0:")
}

// P12.1: who does not vote does not ask, nor who has the greatest term.
func TestAskNot(t *testing.T) {
	for _, x := range []struct {
		id   int
		conf api.Conf
		term uint64
		want string
	}{
		{1, of([]int{2, 3}, 1), 4, ""}, {1, of([]int{2, 3}), 4, ""}, {1, of([]int{1}), top, ""}, {1, three, top, ""},
		{1, three, top - 1, fmt.Sprintf("PreAsk>2 t%d 0/0; PreAsk>3 t%d 0/0", top, top)},
	} {
		h := start(t, x.id, api.Hard{Term: x.term}, api.Shot{Conf: x.conf})
		for _, now := range []int64{10, 20, 99} {
			h.advance(now, 0, x.want)
		}
		if x.want == "" {
			h.is(fmt.Sprintf("Follower of 0, t%d v0 c0, 0/0:", x.term))
		}
	}
}

// P12.1: what is asked goes to all others that vote, rising, with the log's last place.
func TestAskWhom(t *testing.T) {
	h := start(t, 4, api.Hard{Term: 7, Vote: 2}, api.Shot{Index: 3, Term: 2, Conf: of([]int{1, 4, 9, 16}, 2, 7)}, row(3, 2, 5)...)
	h.advance(10, 0, "PreAsk>1 t8 5/5; PreAsk>9 t8 5/5; PreAsk>16 t8 5/5")
	h.is("Early of 0, t7 v2 c3, 3/2: 4/2=a 5/5=b")
	h.recv(api.Msg{Kind: api.PreAnswer, From: 9, Term: 8, OK: true}, 10, "")
	h.recv(api.Msg{Kind: api.PreAnswer, From: 9, Term: 8, OK: true}, 10, "") // it counts once
	h.recv(api.Msg{Kind: api.PreAnswer, From: 2, Term: 8, OK: true}, 10, "") // it does not vote
	h.recv(api.Msg{Kind: api.PreAnswer, From: 5, Term: 8, OK: true}, 10, "") // it is no member
	h.recv(api.Msg{Kind: api.PreAnswer, From: 16, Term: 8, OK: true}, 12, "VoteAsk>1 t8 5/5; VoteAsk>9 t8 5/5; VoteAsk>16 t8 5/5")
	h.is("Candidate of 0, t8 v4 c3, 3/2: 4/2=a 5/5=b")
	h.recv(api.Msg{Kind: api.VoteAnswer, From: 1, Term: 8, OK: true}, 12, "")
	h.recv(api.Msg{Kind: api.VoteAnswer, From: 1, Term: 8, OK: true}, 12, "")
	h.recv(api.Msg{Kind: api.VoteAnswer, From: 7, Term: 8, OK: true}, 12, "")
	h.recv(api.Msg{Kind: api.VoteAnswer, From: 6, Term: 8, OK: true}, 12, "")
	h.recv(api.Msg{Kind: api.VoteAnswer, From: 9, Term: 8}, 12, "")
	h.is("Candidate of 0, t8 v4 c3, 3/2: 4/2=a 5/5=b")
	const entry = " t8 5/5 c3 r1 [6/8-]"
	h.recv(api.Msg{Kind: api.VoteAnswer, From: 16, Term: 8, OK: true}, 12, "Append>1"+entry+"; Append>2"+entry+"; Append>7"+entry+"; Append>9"+entry+"; Append>16"+entry)
	h.is("Leader of 4, t8 v4 c3, 3/2: 4/2=a 5/5=b 6/8-")
}

// P12.1: a yes to an early asking counts for one that is Early, in the term behind its own, and is nothing else to anybody.
func TestPreYes(t *testing.T) {
	h := start(t, 1, api.Hard{Term: 4}, api.Shot{Conf: three})
	pre := func(from int, term uint64) api.Msg {
		return api.Msg{Kind: api.PreAnswer, From: from, Term: term, OK: true}
	}
	h.recv(pre(2, 5), 9, "")
	h.recv(pre(2, 99), 9, "")
	h.is("Follower of 0, t4 v0 c0, 0/0:")
	h.advance(10, 0, asked(5))
	for _, term := range []uint64{0, 3, 4, 6, 99, top} {
		h.recv(pre(2, term), 10, "")
		h.is("Early of 0, t4 v0 c0, 0/0:")
	}
	h.recv(pre(2, 5), 17, "VoteAsk>2 t5 0/0; VoteAsk>3 t5 0/0")
	h.is("Candidate of 0, t5 v1 c0, 0/0:")
	h.recv(pre(3, 5), 17, "")
	h.recv(pre(3, 6), 17, "")
	h.is("Candidate of 0, t5 v1 c0, 0/0:")
	// When it stood it began to wait.
	h.advance(26, 0, "")
	h.advance(27, 0, asked(6))
}

// P12.1: a no to an early asking is nothing but its term.
func TestPreNo(t *testing.T) {
	h := start(t, 1, api.Hard{Term: 4, Vote: 3}, api.Shot{Conf: three})
	h.advance(10, 0, asked(5))
	h.recv(api.Msg{Kind: api.PreAnswer, From: 2, Term: 4}, 11, "")
	h.recv(api.Msg{Kind: api.PreAnswer, From: 2, Term: 3}, 11, "")
	h.is("Early of 0, t4 v3 c0, 0/0:")
	h.recv(api.Msg{Kind: api.PreAnswer, From: 2, Term: 6}, 12, "")
	h.is("Follower of 0, t6 v0 c0, 0/0:")
	h.recv(api.Msg{Kind: api.PreAnswer, From: 3, Term: 5, OK: true}, 12, "")
	h.advance(21, 0, "")
	h.advance(22, 0, asked(7))
}

// P12.1: the answer to an early asking.
func TestPreAsk(t *testing.T) {
	for _, x := range []struct {
		term, index, logTerm uint64
		now                  int64
		want                 string
	}{
		{4, 2, 3, 10, "t4 0/0 yes"}, {4, 3, 3, 10, "t4 0/0 yes"}, {4, 0, 4, 10, "t4 0/0 yes"}, {99, 2, 3, 10, "t99 0/0 yes"}, {top, top, top, 10, "t4611686018427387904 0/0 yes"},
		{3, 2, 3, 10, "t3 0/0"}, {2, 2, 3, 10, "t3 0/0"}, {0, 9, 9, 10, "t3 0/0"}, // the term
		{4, 1, 3, 10, "t3 0/0"}, {4, 9, 2, 10, "t3 0/0"}, {4, 0, 0, 10, "t3 0/0"}, {9, 2, 2, 10, "t3 0/0"}, // the log
		{4, 2, 3, 9, "t3 0/0"}, {4, 2, 3, 0, "t3 0/0"}, // it is sure
	} {
		for _, from := range []int{2, 9, 16} { // who votes for whom is not asked
			h := start(t, 1, api.Hard{Term: 3, Vote: 2}, api.Shot{Conf: three}, row(0, 1, 3)...)
			h.recv(api.Msg{Kind: api.PreAsk, From: from, Term: x.term, Index: x.index, LogTerm: x.logTerm, Round: 5}, x.now, fmt.Sprintf("PreAnswer>%d %s", from, x.want))
			h.is("Follower of 0, t3 v2 c0, 0/0: 1/1=a 2/3=b")
		}
	}
}

// P12.1: an early asking puts nothing off.
func TestPreAskPutsNothingOff(t *testing.T) {
	h := fresh(t)
	h.recv(api.Msg{Kind: api.PreAsk, From: 2, Term: 1}, 9, "PreAnswer>2 t0 0/0")
	h.advance(10, 0, asked(1))
	h.recv(api.Msg{Kind: api.PreAsk, From: 2, Term: 1}, 15, "PreAnswer>2 t1 0/0 yes")
	h.is("Early of 0, t0 v0 c0, 0/0:")
	h.advance(20, 0, asked(1))
}

// P12.1: a node is sure for Base behind the last time it heard of one that leads.
func TestSure(t *testing.T) {
	h := fresh(t)
	h.recv(api.Msg{Kind: api.Append, From: 2, Term: 1}, 8, "Answer>2 t1 0/0 yes")
	ask := api.Msg{Kind: api.PreAsk, From: 3, Term: 2}
	h.recv(ask, 17, "PreAnswer>3 t1 0/0")
	h.recv(api.Msg{Kind: api.Chunk, From: 2, Term: 1, Conf: three}, 17, "")
	h.recv(ask, 26, "PreAnswer>3 t1 0/0")
	h.recv(ask, 27, "PreAnswer>3 t2 0/0 yes")
	// Nothing else tells that somebody leads.
	h.recv(api.Msg{Kind: api.VoteAsk, From: 2, Term: 2}, 27, "VoteAnswer>2 t2 0/0 yes")
	h.recv(api.Msg{Kind: api.PreAsk, From: 3, Term: 3}, 27, "PreAnswer>3 t3 0/0 yes")
}

// P12.1: whom it votes for, in its own term.
func TestVote(t *testing.T) {
	for _, x := range []struct {
		vote           int
		from           int
		index, logTerm uint64
		atOnce         bool
		now            int64
		yes            bool
	}{
		{0, 2, 2, 3, false, 10, true}, {2, 2, 2, 3, false, 10, true}, {0, 9, 5, 3, false, 10, true}, {0, 2, 0, 4, false, 10, true},
		{3, 2, 2, 3, false, 10, false}, {1, 2, 2, 3, true, 10, false}, // it voted for another one
		{0, 2, 1, 3, false, 10, false}, {0, 2, 9, 2, true, 10, false}, {2, 2, 0, 0, true, 10, false}, // its log is newer
		{0, 2, 2, 3, false, 9, false}, {2, 2, 2, 3, false, 0, false}, {0, 2, 2, 3, true, 9, true}, {2, 2, 2, 3, true, 0, true}, // it is sure
	} {
		h := start(t, 1, api.Hard{Term: 3, Vote: x.vote}, api.Shot{Conf: three}, row(0, 1, 3)...)
		want, vote := fmt.Sprintf("VoteAnswer>%d t3 0/0", x.from), x.vote
		if x.yes {
			want, vote = want+" yes", x.from
		}
		h.recv(api.Msg{Kind: api.VoteAsk, From: x.from, Term: 3, Index: x.index, LogTerm: x.logTerm, OK: x.atOnce, Round: 8}, x.now, want)
		h.is(fmt.Sprintf("Follower of 0, t3 v%d c0, 0/0: 1/1=a 2/3=b", vote))
	}
}

// P12.1: who votes for one begins to wait; who does not, does not.
func TestVotePutsOff(t *testing.T) {
	h := start(t, 1, api.Hard{Term: 3}, api.Shot{Conf: three})
	h.recv(api.Msg{Kind: api.VoteAsk, From: 2, Term: 3, OK: true}, 6, "VoteAnswer>2 t3 0/0 yes")
	h.recv(api.Msg{Kind: api.VoteAsk, From: 3, Term: 3, OK: true}, 9, "VoteAnswer>3 t3 0/0")
	h.advance(15, 0, "")
	h.advance(16, 0, asked(4))
}

// P12.1: one that is Early still votes in its term, and stays Early; a Candidate has voted for itself, and a leader never votes.
func TestVoteOfOthers(t *testing.T) {
	h := start(t, 1, api.Hard{Term: 3}, api.Shot{Conf: three})
	h.advance(10, 0, asked(4))
	h.recv(api.Msg{Kind: api.VoteAsk, From: 2, Term: 3}, 10, "VoteAnswer>2 t3 0/0 yes")
	h.is("Early of 0, t3 v2 c0, 0/0:")
	h.recv(api.Msg{Kind: api.PreAnswer, From: 3, Term: 4, OK: true}, 10, "VoteAsk>2 t4 0/0; VoteAsk>3 t4 0/0")
	h.recv(api.Msg{Kind: api.VoteAsk, From: 3, Term: 4, OK: true}, 30, "VoteAnswer>3 t4 0/0")
	h.is("Candidate of 0, t4 v1 c0, 0/0:")
	h = leading(t, api.Hard{}, api.Shot{Conf: three})
	h.recv(api.Msg{Kind: api.VoteAsk, From: 3, Term: 1, Index: 9, LogTerm: 9, OK: true}, 30, "VoteAnswer>3 t1 0/0")
	h.is("Leader of 1, t1 v1 c0, 0/0: 1/1-")
}

// P12.1: one who is sure that somebody leads does not hear who asks for votes in a later term, unless at once.
func TestLaterVoteAsk(t *testing.T) {
	h := start(t, 1, api.Hard{Term: 3, Vote: 3}, api.Shot{Conf: three}, row(0, 1, 3)...)
	ask := api.Msg{Kind: api.VoteAsk, From: 2, Term: 4, Index: 2, LogTerm: 3}
	h.recv(ask, 9, "")
	h.is("Follower of 0, t3 v3 c0, 0/0: 1/1=a 2/3=b")
	ask.OK = true
	h.recv(ask, 9, "VoteAnswer>2 t4 0/0 yes")
	h.is("Follower of 0, t4 v2 c0, 0/0: 1/1=a 2/3=b")
	ask.OK, ask.Term = false, 5
	h.recv(ask, 10, "VoteAnswer>2 t5 0/0 yes")
	h.is("Follower of 0, t5 v2 c0, 0/0: 1/1=a 2/3=b")
	// The term is taken also from one that gets no vote.
	h.recv(api.Msg{Kind: api.VoteAsk, From: 3, Term: 6, Index: 1, LogTerm: 3}, 10, "VoteAnswer>3 t6 0/0")
	h.is("Follower of 0, t6 v0 c0, 0/0: 1/1=a 2/3=b")
	h.recv(api.Msg{Kind: api.VoteAsk, From: 3, Term: 7, Index: 1, LogTerm: 3, OK: true}, 0, "VoteAnswer>3 t7 0/0")
	h.is("Follower of 0, t7 v0 c0, 0/0: 1/1=a 2/3=b")
	// So it waits from 10 on, when it is said to be 0.
	h.advance(19, 0, "")
	h.advance(20, 0, "PreAsk>2 t8 2/3; PreAsk>3 t8 2/3")
}

// P12.1: a VoteAsk of its own term counts the sureness too.
func TestSureInTerm(t *testing.T) {
	h := start(t, 1, api.Hard{Term: 3}, api.Shot{Conf: three})
	h.recv(api.Msg{Kind: api.Append, From: 3, Term: 3}, 20, "Answer>3 t3 0/0 yes")
	h.recv(api.Msg{Kind: api.VoteAsk, From: 2, Term: 3}, 29, "VoteAnswer>2 t3 0/0")
	h.recv(api.Msg{Kind: api.VoteAsk, From: 2, Term: 3}, 30, "VoteAnswer>2 t3 0/0 yes")
	h.is("Follower of 3, t3 v2 c0, 0/0:")
}

// P12.1: an answer to a VoteAsk counts for a Candidate alone.
func TestVoteAnswer(t *testing.T) {
	h := start(t, 1, api.Hard{Term: 3}, api.Shot{Conf: three})
	answer := api.Msg{Kind: api.VoteAnswer, From: 2, Term: 3, OK: true}
	h.recv(answer, 5, "")
	h.is("Follower of 0, t3 v0 c0, 0/0:")
	h.advance(10, 0, asked(4))
	h.recv(answer, 10, "")
	h.is("Early of 0, t3 v0 c0, 0/0:")
	h.recv(api.Msg{Kind: api.PreAnswer, From: 2, Term: 4, OK: true}, 10, "VoteAsk>2 t4 0/0; VoteAsk>3 t4 0/0")
	h.recv(answer, 10, "") // of an elder term
	answer.Term, answer.OK = 4, false
	h.recv(answer, 10, "")
	h.is("Candidate of 0, t4 v1 c0, 0/0:")
	answer.OK = true
	h.recv(answer, 10, "Append>2 t4 0/0 r1 [1/4-]; Append>3 t4 0/0 r1 [1/4-]")
	answer.From = 3
	h.recv(answer, 10, "")
	h.is("Leader of 1, t4 v1 c0, 0/0: 1/4-")
}

// P12.1: a message of a later term ends whatever it was, and of all kinds but two its vote; it begins to wait.
func TestLaterTerm(t *testing.T) {
	for _, kind := range []int{api.PreAnswer, api.VoteAnswer, api.Answer, api.ChunkNext} {
		for _, roleTime := range []int64{5, 10} {
			h := start(t, 1, api.Hard{Term: 3, Vote: 2}, api.Shot{Conf: three})
			h.c.Advance(roleTime, 0)
			h.recv(api.Msg{Kind: kind, From: 9, Term: 4, Index: 1, LogTerm: 1, Off: 3}, 17, "")
			h.is("Follower of 0, t4 v0 c0, 0/0:")
			h.advance(26, 0, "")
			h.advance(27, 0, asked(5))
		}
		h := leading(t, api.Hard{}, api.Shot{Conf: three})
		h.recv(yes(2, 1, 1, 1), 10, "")
		h.c.Read(70, false, 10)
		h.c.Read(50, false, 10)
		h.recv(api.Msg{Kind: kind, From: 2, Term: 2, OK: kind != api.PreAnswer}, 11, "lost 70; lost 50")
		h.is("Follower of 0, t2 v0 c1, 0/0: 1/1-")
		h.advance(20, 0, "")
		h.advance(21, 0, "PreAsk>2 t3 1/1; PreAsk>3 t3 1/1")
	}
	h := leading(t, api.Hard{}, api.Shot{Conf: three})
	h.recv(api.Msg{Kind: api.Append, From: 2, Term: 2, Round: 9}, 11, "Answer>2 t2 0/0 r9 yes")
	h.is("Follower of 2, t2 v0 c0, 0/0: 1/1-")
}

// P12.1: what is of an elder term is answered so that its sender hears of the term, and is nothing else.
func TestElderTerm(t *testing.T) {
	for kind, want := range map[int]string{
		api.Append: "Answer>2 t3 2/3", api.Chunk: "Answer>2 t3 2/3", api.VoteAsk: "VoteAnswer>2 t3 0/0",
		api.VoteAnswer: "", api.Answer: "", api.ChunkNext: "", api.Now: "", api.PreAnswer: "",
	} {
		for _, term := range []uint64{0, 1, 2} {
			m := api.Msg{Kind: kind, From: 2, Term: term, Index: 2, LogTerm: 3, Round: 7, OK: kind != api.PreAnswer}
			if kind == api.Chunk {
				m.Conf = three
			}
			h := start(t, 1, api.Hard{Term: 3}, api.Shot{Conf: three}, row(0, 1, 3)...)
			h.recv(m, 9, want)
			h.is("Follower of 0, t3 v0 c0, 0/0: 1/1=a 2/3=b")
			h.advance(10, 0, "PreAsk>2 t4 2/3; PreAsk>3 t4 2/3")
		}
	}
}

// P12.1: nothing at all happens of what is not sound, or not for it, or too great.
func TestRecvNothing(t *testing.T) {
	good := api.Msg{Kind: api.Append, From: 2, To: 1, Term: 5, Round: 3, Entries: row(0, 5)}
	for what, change := range map[string]func(*api.Msg){
		"a kind 0":         func(m *api.Msg) { m.Kind = 0 },
		"a kind 10":        func(m *api.Msg) { m.Kind = 10 },
		"from nobody":      func(m *api.Msg) { m.From = 0 },
		"from 17":          func(m *api.Msg) { m.From = 17 },
		"from itself":      func(m *api.Msg) { m.From = 1 },
		"to nobody":        func(m *api.Msg) { m.To = 0 },
		"to another one":   func(m *api.Msg) { m.To = 2 },
		"to one beyond":    func(m *api.Msg) { m.To = 3 },
		"a great term":     func(m *api.Msg) { m.Term = top + 1 },
		"the greatest":     func(m *api.Msg) { m.Term = math.MaxUint64 },
		"a great place":    func(m *api.Msg) { m.Index, m.Entries = top+1, nil },
		"a great log term": func(m *api.Msg) { m.LogTerm = top + 1 },
		"an entry":         func(m *api.Msg) { m.Entries = []api.Entry{{Index: 1, Term: 5}} },
		"nine entries":     func(m *api.Msg) { m.Entries = row(0, 5, 5, 5, 5, 5, 5, 5, 5, 5) },
		"a conf":           func(m *api.Msg) { m.Conf = three },
		"a chunk":          func(m *api.Msg) { m.Kind = api.Chunk },
		"off below 0":      func(m *api.Msg) { m.Off = -1 },
		"off too far":      func(m *api.Msg) { m.Off = api.MaxFrame + 1 },
		"too many data":    func(m *api.Msg) { m.Data = make([]byte, api.MaxChunk+1) },
	} {
		h := start(t, 1, api.Hard{Term: 3, Vote: 2}, api.Shot{Conf: three})
		m := good
		change(&m)
		if out := h.c.Recv(m, 99, 0); wordOut(out) != "" {
			t.Errorf("%s: %s", what, wordOut(out))
		}
		h.is("Follower of 0, t3 v2 c0, 0/0:")
		h.advance(9, 0, "") // it is not 99
	}
	h := start(t, 1, api.Hard{Term: 3, Vote: 2}, api.Shot{Conf: three})
	h.recv(good, 99, "Answer>2 t5 1/0 r3 yes")
	h.is("Follower of 2, t5 v0 c0, 0/0: 1/5=a")
}

// P12.1: numbers at their ends come through.
func TestRecvGreatest(t *testing.T) {
	h := start(t, 1, api.Hard{Term: 3}, api.Shot{Conf: three})
	h.recv(api.Msg{Kind: api.Append, From: 2, Term: top, Index: top, LogTerm: top, Commit: math.MaxUint64, Round: math.MaxUint64}, 5, "Answer>2 t4611686018427387904 0/0 r18446744073709551615")
	h.is("Follower of 2, t4611686018427387904 v0 c0, 0/0:")
	// With the greatest term nobody stands any more.
	h.recv(api.Msg{Kind: api.Now, From: 2, Term: top}, 5, "")
	h.advance(99, 0, "")
	h.recv(api.Msg{Kind: api.PreAnswer, From: 2, Term: top, OK: true}, 99, "")
	h.is("Follower of 2, t4611686018427387904 v0 c0, 0/0:")
}

// P12.1: Now lets one that votes stand at once, whatever it was but a leader.
func TestRecvNow(t *testing.T) {
	const asks = "VoteAsk>2 t%d 0/0 yes; VoteAsk>3 t%d 0/0 yes"
	now := api.Msg{Kind: api.Now, From: 2, Term: 3}
	h := start(t, 1, api.Hard{Term: 3, Vote: 2}, api.Shot{Conf: three})
	h.recv(now, 1, fmt.Sprintf(asks, 4, 4))
	h.is("Candidate of 0, t4 v1 c0, 0/0:")
	h.recv(now, 1, "") // of an elder term
	now.Term = 4
	h.recv(now, 5, fmt.Sprintf(asks, 5, 5))
	h.advance(14, 0, "")
	h.advance(15, 0, asked(6))
	now.Term = 5
	h.recv(now, 15, fmt.Sprintf(asks, 6, 6))
	now.Term = 8 // later: it takes that term, and stands in the next
	h.recv(now, 15, fmt.Sprintf(asks, 9, 9))
	h.is("Candidate of 0, t9 v1 c0, 0/0:")
	h.recv(api.Msg{Kind: api.VoteAnswer, From: 3, Term: 9, OK: true}, 15, "Append>2 t9 0/0 r1 [1/9-]; Append>3 t9 0/0 r1 [1/9-]")
	now.Term = 9
	h.recv(now, 15, "")
	h.is("Leader of 1, t9 v1 c0, 0/0: 1/9-")
	// One that does not vote does not stand, but takes the term.
	h = start(t, 1, api.Hard{Term: 3, Vote: 2}, api.Shot{Conf: of([]int{2, 3}, 1)})
	now.Term = 3
	h.recv(now, 1, "")
	h.is("Follower of 0, t3 v2 c0, 0/0:")
	now.Term = 4
	h.recv(now, 1, "")
	h.is("Follower of 0, t4 v0 c0, 0/0:")
	// Who votes alone leads.
	h = start(t, 1, api.Hard{Term: top - 1}, api.Shot{Conf: of([]int{1})})
	now.Term = top - 1
	h.recv(now, 1, "")
	h.is("Leader of 1, t4611686018427387904 v1 c1, 0/0: 1/4611686018427387904-")
}
