package core

import (
	"slices"

	"scupper/api"
	"scupper/conf"
	"scupper/snap"
)

// leader is what a node has as long as it leads.
type leader struct {
	peers    []peer  // all other members, rising
	round    uint64  // how often it has beaten
	known    uint64  // the last round by which it is known that it leads ("Sure")
	begun    []int64 // when the rounds behind that began
	checked  int64   // since when those in answered have answered
	answered []int
	give     int   // to whom it gives the lead; 0: nobody
	giveDue  int64 // when it gives that up
	given    bool  // was anybody asked to stand?
	stamp    int64 // when it made its last entry
	beaten   int64
	looks    []look
}

// peer is another member, as the leader knows it.
type peer struct {
	id     int
	next   uint64 // the place of the entry that is sent next
	match  uint64 // up to here its log is known to be the same
	open   bool   // entries are sent ahead of answers
	flight int    // messages with entries that are not answered
	round  uint64
	told   bool // did it answer the last beat?
	off    int  // the place in the snapshot's data
	asked  bool // was it sent a piece that it has not answered?
}

// look is one that waits till it is known that the node still led in a round.
type look struct {
	Ready
	round uint64
}

// copy answers what a copy of the node has as a leader.
func (l leader) copy() leader {
	l.peers, l.begun, l.looks = slices.Clone(l.peers), slices.Clone(l.begun), slices.Clone(l.looks)
	return l
}

// peer answers what it knows of a member; nil, if that is no other one.
func (l *leader) peer(id int) *peer {
	at, is := slices.BinarySearchFunc(l.peers, id, func(p peer, id int) int { return p.id - id })
	if !is {
		return nil
	}
	return &l.peers[at]
}

// back lets all be sent again from where the peer's log is known to be the same.
func (p *peer) back() {
	p.open, p.next, p.flight, p.asked = false, p.match+1, 0, false
}

// takeLead lets it lead.
func (s *step) takeLead() {
	s.follow(0)
	s.role, s.lead = Leader, s.id
	s.checked, s.stamp = s.now, s.now
	s.setPeers(s.last() + 1)
	s.add(api.EntryNone, nil)
	s.count()
	s.beat()
}

// setPeers lets all other members be peers; to those that were none, place next is sent first.
func (s *step) setPeers(next uint64) {
	ids := slices.Concat(s.conf.Voters, s.conf.Learners)
	slices.Sort(ids)
	var peers []peer
	for _, id := range ids {
		if p := s.peer(id); p != nil {
			peers = append(peers, *p)
		} else if id != s.id {
			peers = append(peers, peer{id: id, next: next, told: true})
		}
	}
	s.peers = peers
}

// add makes an entry, and answers its place. Behind the greatest place it makes none.
func (s *step) add(kind int, data []byte) uint64 {
	last, term := s.log.Last()
	if last >= greatest {
		return 0
	}
	x := api.Entry{Index: last + 1, Term: s.term, Kind: kind, Delta: min(s.now-s.stamp, api.MaxTerm), Data: data}
	s.stamp = s.now
	s.log.Append(last, term, x)
	s.seekConf(x.Index)
	return x.Index
}

// handOn counts an entry that was made, and sends it.
func (s *step) handOn() {
	s.count()
	for i := range s.peers {
		s.send(&s.peers[i], false)
	}
}

// count settles what more than half of those who vote have. An entry of an elder term that they have may still be replaced, till one of its own term stands behind it.
func (s *step) count() {
	place := s.reached(s.last(), func(p *peer) uint64 { return p.match })
	if place > s.commit && s.log.Fits(place, s.term) {
		s.commit = place
	}
}

// reached answers the greatest number that more than half of those who vote reach: its own, and its peers'.
func (s *step) reached(own uint64, of func(*peer) uint64) uint64 {
	var list []uint64
	for _, id := range s.conf.Voters {
		n := uint64(0)
		if p := s.peer(id); p != nil {
			n = of(p)
		} else if id == s.id {
			n = own
		}
		list = append(list, n)
	}
	n, _ := conf.Reached(s.conf, list...)
	return n
}

// beat begins a round: each peer is sent something that it answers.
func (s *step) beat() {
	s.beaten = s.now
	s.round++
	s.begun = append(s.begun, s.now)
	for i := range s.peers {
		p := &s.peers[i]
		if !p.told {
			p.back()
		}
		p.told = false
		s.send(p, true)
	}
	if s.quorum(s.id) {
		s.know(s.round)
	}
}

// know lets a round be known, and answers when it began.
func (s *step) know(round uint64) int64 {
	n := round - s.known
	began := s.begun[n-1]
	s.known, s.begun = round, s.begun[n:]
	return began
}

// countRounds lets all looks be ready that wait for rounds in which it led.
func (s *step) countRounds() {
	round := s.reached(s.round, func(p *peer) uint64 { return p.round })
	if round <= s.known {
		return
	}
	s.heard = s.know(round)
	var left []look
	for _, x := range s.looks {
		if x.round <= round {
			s.out.Ready = append(s.out.Ready, x.Ready)
		} else {
			left = append(left, x)
		}
	}
	s.looks = left
}

// send sends a peer what it lacks; by force: also if that is nothing, or is on its way.
func (s *step) send(p *peer, force bool) {
	if p.next <= s.base() {
		if force || !p.asked {
			s.sendPiece(p)
		}
		return
	}
	list := s.toSend(p)
	if len(list) == 0 && !force {
		return
	}
	term, _ := s.log.Term(p.next - 1)
	s.tell(api.Msg{Kind: api.Append, To: p.id, Index: p.next - 1, LogTerm: term, Commit: s.commit, Round: s.round, Entries: list})
	if len(list) > 0 {
		p.flight++
		if p.open {
			p.next += uint64(len(list))
		}
	}
}

// toSend answers the entries that a peer may be sent now.
func (s *step) toSend(p *peer) []api.Entry {
	if p.flight >= api.MaxWindow || !p.open && p.flight > 0 {
		return nil
	}
	list, _ := s.log.From(p.next, api.MaxBatch)
	return list
}

// sendPiece sends a peer a piece of the snapshot.
func (s *step) sendPiece(p *peer) {
	piece, e := snap.Cut(s.shot.Index, s.shot.Term, s.shot.Data, p.off)
	if e != api.OK {
		// The place was one of another snapshot.
		p.off = 0
		piece, _ = snap.Cut(s.shot.Index, s.shot.Term, s.shot.Data, 0)
	}
	p.asked = true
	s.tell(api.Msg{Kind: api.Chunk, To: p.id, Index: piece.Index, LogTerm: piece.Term, Round: s.round, OK: piece.Last, Conf: cloneConf(s.shot.Conf), Off: piece.Off, Data: piece.Data})
}

// askToStand lets the one to whom it gives the lead stand, now that it has all.
func (s *step) askToStand(p *peer) {
	s.given = true
	s.tell(api.Msg{Kind: api.Now, To: p.id})
}
