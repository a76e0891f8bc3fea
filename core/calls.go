package core

import (
	"scupper/api"
	"scupper/conf"
	"scupper/msg"
	"scupper/sum"
)

// maxAhead is how many entries may stand behind what is settled.
const maxAhead = 4096

// The kinds of changes.
const (
	learn = 1
	vote  = 2
	leave = 3
)

// Advance lets the node do what its time is for.
func (c *Core) Advance(now int64, draw uint64) Out {
	if c == nil {
		return Out{}
	}
	s := c.begin(now, draw)
	if s.role == Leader {
		s.goOnLeading()
	} else if s.now >= s.due {
		s.rest(s.span)
		if s.votes(s.id) && s.term < greatest {
			s.askEarly()
		}
	}
	return s.out
}

// Propose lets a leader make an entry of data, and answers its place.
func (c *Core) Propose(data []byte, now int64) (uint64, Out, api.Errno) {
	if e := c.checkPropose(data); e != api.OK {
		return 0, Out{}, e
	}
	s := c.begin(now, 0)
	place := s.add(api.EntryData, data)
	s.handOn()
	return place, s.out, api.OK
}

// Change lets a leader make an entry of another configuration, and answers its place: a node learns, votes, or leaves.
func (c *Core) Change(kind, id int, now int64) (uint64, Out, api.Errno) {
	next, e := c.changed(kind, id)
	if e != api.OK {
		return 0, Out{}, e
	}
	s := c.begin(now, 0)
	data, _ := msg.Conf(next)
	place := s.add(api.EntryConf, data)
	s.setPeers(place + 1)
	s.handOn()
	return place, s.out, api.OK
}

// Give lets a leader give the lead to one that votes, as soon as that one has the whole log.
func (c *Core) Give(to int, now int64) (Out, api.Errno) {
	if e := c.checkGive(to); e != api.OK {
		return Out{}, e
	}
	s := c.begin(now, 0)
	s.give, s.giveDue = to, s.now+s.least
	if p := s.peer(to); p.match == s.last() {
		s.askToStand(p)
	}
	return s.out, api.OK
}

// Read lets a leader look at what is settled: at once, if it is sure that nobody else leads; lazily: as far as it trusts the clocks for that.
func (c *Core) Read(id uint64, lazy bool, now int64) (Out, api.Errno) {
	if e := c.checkLead(); e != api.OK {
		return Out{}, e
	}
	if !c.settled() {
		return Out{}, api.ErrBusy
	}
	s := c.begin(now, 0)
	x := Ready{ID: id, Index: s.commit}
	if lazy && s.trusts() || s.quorum(s.id) {
		s.out.Ready = []Ready{x}
		return s.out, api.OK
	}
	s.looks = append(s.looks, look{x, s.round + 1})
	s.beat()
	return s.out, api.OK
}

// Keep lets a snapshot of its own log stand for what is up to the snapshot's place.
func (c *Core) Keep(shot api.Shot) api.Errno {
	if c == nil {
		return api.ErrArg
	}
	if !isShot(shot) {
		return api.ErrForm
	}
	if shot.Index > c.commit || !c.log.Fits(shot.Index, shot.Term) || !sameConf(shot.Conf, c.confOf(shot.Index)) {
		return api.ErrArg
	}
	c.log.Shrink(shot.Index)
	c.shot = cloneShot(shot)
	return api.OK
}

// goOnLeading does what a leader's time is for.
func (s *step) goOnLeading() {
	if s.quorum(s.id) {
		s.heard = s.now
	}
	if s.now >= s.checked+s.least {
		if !s.quorum(with(s.answered, s.id)...) {
			s.beginAnew()
			return
		}
		s.checked, s.answered = s.now, nil
	}
	if s.now >= s.giveDue {
		// It may have been asked to stand nevertheless, and may do so at any time: so given stays.
		s.give = 0
	}
	if s.now >= s.beaten+s.every {
		s.beat()
	}
}

// trusts tells whether the clocks alone tell that nobody else leads; they do not once it asked another one to stand at once.
func (s *step) trusts() bool {
	span, e := sum.Guard(s.least, s.rho)
	return e == api.OK && !s.given && s.now-s.heard < span
}

// checkLead answers the errors that all calls to a leader have.
func (c *Core) checkLead() api.Errno {
	if c == nil {
		return api.ErrArg
	}
	if c.role != Leader {
		return api.ErrLead
	}
	return api.OK
}

func (c *Core) checkPropose(data []byte) api.Errno {
	if e := c.checkLead(); e != api.OK {
		return e
	}
	if len(data) > api.MaxFrame/16 {
		return api.ErrLarge
	}
	if last := c.last(); c.give != 0 || last >= c.commit+maxAhead || last == greatest {
		return api.ErrBusy
	}
	return api.OK
}

func (c *Core) checkGive(to int) api.Errno {
	if e := c.checkLead(); e != api.OK {
		return e
	}
	if to == c.id || !c.votes(to) {
		return api.ErrNone
	}
	if c.give != 0 {
		return api.ErrBusy
	}
	return api.OK
}

// changed answers the configuration that a change comes to. While one is not settled there is no other one, lest two majorities have nobody in common.
func (c *Core) changed(kind, id int) (api.Conf, api.Errno) {
	if e := c.checkLead(); e != api.OK {
		return api.Conf{}, e
	}
	if c.confAt > c.commit || !c.settled() || c.give != 0 || c.last() == greatest {
		return api.Conf{}, api.ErrBusy
	}
	switch {
	case kind == learn:
		return conf.Learn(c.conf, id)
	case kind == vote:
		return conf.Vote(c.conf, id)
	case kind == leave && id != c.id:
		return conf.Leave(c.conf, id)
	}
	return api.Conf{}, api.ErrArg
}
