package core

import (
	"slices"

	"scupper/api"
	"scupper/rlog"
	"scupper/snap"
)

// Recv lets a message come.
func (c *Core) Recv(m api.Msg, now int64, draw uint64) Out {
	if c == nil || !c.takes(m) {
		return Out{}
	}
	s := c.begin(now, draw)
	switch {
	case m.Kind == api.PreAsk:
		s.preAsk(m)
	case m.Kind == api.VoteAsk && m.Term > s.term && !m.OK && s.sure():
		// Somebody leads: one who did not hear of that does not even spend a term.
	case m.Kind == api.PreAnswer && m.OK:
		s.preYes(m)
	case m.Term < s.term:
		s.old(m)
	default:
		if m.Term > s.term {
			s.term, s.vote = m.Term, 0
			s.beginAnew()
		}
		s.ofTerm(m)
	}
	return s.out
}

// takes tells whether a message is one for this node.
func (c *Core) takes(m api.Msg) bool {
	return isMsg(m) && m.To == c.id && m.From != c.id && max(m.Term, m.Index, m.LogTerm) <= greatest
}

// preAsk tells whether it would vote for one in the term that this one would stand in.
func (s *step) preAsk(m api.Msg) {
	answer := api.Msg{Kind: api.PreAnswer, To: m.From, Term: s.term}
	if m.Term > s.term && s.log.Fresh(m.Index, m.LogTerm) && !s.sure() {
		answer.OK, answer.Term = true, m.Term
	}
	s.tellOf(answer)
}

// preYes takes the word of one that would vote for it.
func (s *step) preYes(m api.Msg) {
	if s.role == Early && m.Term == s.term+1 && s.votes(m.From) && s.saysYes(m.From) {
		s.stand(false)
	}
}

// old answers those that don't know of the term yet: one that leads, or stands, gives up by that.
func (s *step) old(m api.Msg) {
	switch m.Kind {
	case api.Append, api.Chunk:
		last, term := s.log.Last()
		s.tell(api.Msg{Kind: api.Answer, To: m.From, Index: last, LogTerm: term})
	case api.VoteAsk:
		s.tell(api.Msg{Kind: api.VoteAnswer, To: m.From})
	}
}

// ofTerm takes a message of its own term.
func (s *step) ofTerm(m api.Msg) {
	switch m.Kind {
	case api.VoteAsk:
		s.voteAsk(m)
	case api.VoteAnswer:
		if s.role == Candidate && m.OK && s.votes(m.From) && s.saysYes(m.From) {
			s.takeLead()
		}
	case api.Append, api.Chunk:
		s.fromLeader(m)
	case api.Answer, api.ChunkNext:
		if p := s.peer(m.From); s.role == Leader && p != nil {
			s.fromPeer(p, m)
		}
	case api.Now:
		if s.votes(s.id) && s.role != Leader && s.term < greatest {
			s.stand(true)
		}
	}
}

// voteAsk votes, once a term, for one whose log is new enough.
func (s *step) voteAsk(m api.Msg) {
	yes := (s.vote == 0 || s.vote == m.From) && s.role != Leader && s.log.Fresh(m.Index, m.LogTerm) && (m.OK || !s.sure())
	if yes {
		s.vote = m.From
		s.rest(s.span)
	}
	s.tell(api.Msg{Kind: api.VoteAnswer, To: m.From, OK: yes})
}

// fromLeader takes what one that leads sends.
func (s *step) fromLeader(m api.Msg) {
	if s.role == Leader {
		return
	}
	s.follow(m.From)
	s.heard = s.now
	s.rest(s.span)
	if m.Kind == api.Append {
		s.takeEntries(m)
	} else {
		s.takePiece(m)
	}
}

// answer answers m: its log is the leader's up to a place.
func (s *step) answer(m api.Msg, place uint64) {
	s.tell(api.Msg{Kind: api.Answer, To: m.From, OK: true, Index: place, Round: m.Round})
}

// takeEntries takes entries of one that leads.
func (s *step) takeEntries(m api.Msg) {
	if m.Index < s.commit {
		s.answer(m, s.commit)
		return
	}
	if slices.ContainsFunc(m.Entries, func(x api.Entry) bool { return x.Term > s.term }) {
		return
	}
	last, from, e := s.log.Append(m.Index, m.LogTerm, m.Entries...)
	switch e {
	case api.OK:
		if from > 0 {
			s.seekConf(from)
		}
		s.commit = max(s.commit, min(m.Commit, last))
		s.answer(m, last)
	case api.ErrGap:
		index, term := s.log.Hint(m.Index, m.LogTerm)
		s.tell(api.Msg{Kind: api.Answer, To: m.From, Index: index, LogTerm: term, Round: m.Round})
	}
}

// takePiece takes a piece of a snapshot of one that leads.
func (s *step) takePiece(m api.Msg) {
	if m.Index == 0 || m.LogTerm == 0 || m.LogTerm > s.term {
		return
	}
	if m.Index <= s.commit {
		s.answer(m, s.commit)
		return
	}
	if s.log.Fits(m.Index, m.LogTerm) {
		s.commit = m.Index
		s.answer(m, m.Index)
		return
	}
	next, whole, done, e := s.join.Add(snap.Piece{Index: m.Index, Term: m.LogTerm, Off: m.Off, Last: m.OK, Data: m.Data})
	if e != api.OK || !done {
		// Beside an error next is 0: all is sent again.
		s.tell(api.Msg{Kind: api.ChunkNext, To: m.From, Index: m.Index, Off: next, Round: m.Round})
		return
	}
	s.install(api.Shot{Index: m.Index, Term: m.LogTerm, Conf: m.Conf, Data: whole})
	s.out.Shot = true
	s.answer(m, m.Index)
}

// install lets a snapshot of another one stand for its whole log.
func (s *step) install(shot api.Shot) {
	s.shot = cloneShot(shot)
	s.log = rlog.New(shot.Index, shot.Term)
	s.conf, s.confAt = s.shot.Conf, shot.Index
	s.commit = shot.Index
}

// fromPeer takes what a peer answers.
func (s *step) fromPeer(p *peer, m api.Msg) {
	s.answered = with(s.answered, p.id)
	p.told = true
	if m.Round <= s.round {
		p.round = max(p.round, m.Round)
	}
	switch {
	case m.Kind == api.ChunkNext:
		s.chunkNext(p, m)
	case m.OK && m.Index <= s.last():
		s.matched(p, m.Index)
	case !m.OK && m.Index < p.next:
		s.refused(p, m)
	}
	s.countRounds()
}

// matched takes that a peer's log is the same up to a place.
func (s *step) matched(p *peer, place uint64) {
	p.match = max(p.match, place)
	p.next = max(p.next, place+1)
	p.open = true
	if p.flight--; p.flight < 0 || place+1 >= p.next {
		p.flight = 0
	}
	p.off, p.asked = 0, false
	s.count()
	if p.id == s.give && !s.given && p.match == s.last() {
		s.askToStand(p)
	}
	s.send(p, false)
}

// refused takes that a peer's log is another one, and goes back as far as both may be the same.
func (s *step) refused(p *peer, m api.Msg) {
	place, _ := s.log.Hint(m.Index, m.LogTerm)
	p.next = max(p.match+1, min(p.next-1, place+1))
	p.open, p.flight = false, 0
	s.send(p, false)
}

// chunkNext takes where the next piece of the snapshot begins.
func (s *step) chunkNext(p *peer, m api.Msg) {
	if m.Index != s.shot.Index {
		return
	}
	p.off, p.asked = m.Off, false
	if p.next <= s.base() {
		s.send(p, false)
	}
}
