package core

import "scupper/api"

// step is a call under way: the node, what comes of it, and how long the node waits for somebody who leads if it begins to wait.
type step struct {
	*Core
	out  Out
	span int64
}

// begin begins a call; the chapter's calls without a draw begin no wait.
func (c *Core) begin(now int64, draw uint64) *step {
	c.goOn(now)
	return &step{Core: c, span: c.wait(draw)}
}

// tell sends m, of its term.
func (s *step) tell(m api.Msg) {
	m.Term = s.term
	s.tellOf(m)
}

// tellOf sends m, of the term that it has.
func (s *step) tellOf(m api.Msg) {
	m.From = s.id
	s.out.Msgs = append(s.out.Msgs, m)
}

// follow lets it follow a node; 0: nobody. What it had as a leader is gone.
func (s *step) follow(id int) {
	for _, look := range s.looks {
		s.out.Lost = append(s.out.Lost, look.ID)
	}
	s.role, s.lead, s.yes, s.leader = Follower, id, nil, leader{}
}

// beginAnew lets it follow nobody, and wait.
func (s *step) beginAnew() {
	s.follow(0)
	s.rest(s.span)
}

// askEarly asks who would vote for it, and spends no term on that.
func (s *step) askEarly() {
	s.follow(0)
	s.role = Early
	if s.saysYes(s.id) {
		s.stand(false)
		return
	}
	s.askAll(api.Msg{Kind: api.PreAsk, Term: s.term + 1})
}

// stand lets it stand; at once: also with those who are sure that somebody leads.
func (s *step) stand(atOnce bool) {
	s.term++
	s.vote = s.id
	s.beginAnew()
	s.role = Candidate
	if s.saysYes(s.id) {
		s.takeLead()
		return
	}
	s.askAll(api.Msg{Kind: api.VoteAsk, Term: s.term, OK: atOnce})
}

// askAll asks all others that vote, with how new its log is.
func (s *step) askAll(m api.Msg) {
	m.Index, m.LogTerm = s.log.Last()
	for _, id := range s.conf.Voters {
		if id != s.id {
			m.To = id
			s.tellOf(m)
		}
	}
}

// saysYes takes a yes, and tells whether that is enough.
func (s *step) saysYes(id int) bool {
	s.yes = with(s.yes, id)
	return s.quorum(s.yes...)
}
