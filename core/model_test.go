package core

import (
	"math/big"
	"slices"
	"sort"

	"scupper/api"
	"scupper/msg"
)

// model is a node as the chapter's words tell it, one after the other: its log is a map of places, and all is looked for anew each time.
type model struct {
	id                      int
	base, spread, beat, rho int64
	term                    uint64
	vote                    int
	shot                    api.Shot
	at                      map[uint64]api.Entry
	commit                  uint64
	role, lead              int
	now, heard, due         int64
	yes                     map[int]bool
	join                    struct {
		index, term uint64
		data        []byte
	}
	lm  leads
	out Out
	set int64 // the wait of the call
}

// leads is what a model has as a leader.
type leads struct {
	round, sure            uint64
	began                  map[uint64]int64
	checked, stamp, beaten int64
	answered               map[int]bool
	give                   int
	giveDue                int64
	given                  bool
	peers                  map[int]*modelPeer
	waiting                []waiting
}

type modelPeer struct {
	next, match, round uint64
	open, told, asked  bool
	flight, off        int
}

type waiting struct{ id, index, round uint64 }

func newModel(id int, hard api.Hard, shot api.Shot, list []api.Entry, s api.Setting, now int64, draw uint64) *model {
	m := &model{id: id, base: s.Base, spread: s.Spread, beat: s.Beat, rho: s.Rho, term: hard.Term, vote: hard.Vote, shot: shot, commit: shot.Index, role: Follower, now: now, heard: now, at: map[uint64]api.Entry{}, yes: map[int]bool{}}
	for _, x := range list {
		m.at[x.Index] = x
	}
	m.due = now + m.wait(draw)
	return m
}

func (m *model) copy() *model {
	other := *m
	other.at = map[uint64]api.Entry{}
	for i, x := range m.at {
		other.at[i] = x
	}
	other.yes = copied(m.yes)
	other.lm.answered = copied(m.lm.answered)
	other.lm.began = map[uint64]int64{}
	for i, x := range m.lm.began {
		other.lm.began[i] = x
	}
	other.lm.peers = map[int]*modelPeer{}
	for i, p := range m.lm.peers {
		twin := *p
		other.lm.peers[i] = &twin
	}
	other.lm.waiting = slices.Clone(m.lm.waiting)
	other.join.data = slices.Clone(m.join.data)
	return &other
}

func copied(from map[int]bool) map[int]bool {
	to := map[int]bool{}
	for i, x := range from {
		to[i] = x
	}
	return to
}

func (m *model) wait(draw uint64) int64 {
	return new(big.Int).Add(big.NewInt(m.base), new(big.Int).Mod(new(big.Int).SetUint64(draw), big.NewInt(m.spread+1))).Int64()
}

func (m *model) begin(now int64, draw uint64) {
	if now > m.now {
		m.now = now
	}
	m.out, m.set = Out{}, m.wait(draw)
}

func (m *model) sure() bool { return m.now-m.heard < m.base }

// The log.

func (m *model) last() (uint64, uint64) {
	i, term := m.shot.Index, m.shot.Term
	for at, x := range m.at {
		if at > i {
			i, term = at, x.Term
		}
	}
	return i, term
}

func (m *model) termOf(i uint64) (uint64, bool) {
	if i == m.shot.Index {
		return m.shot.Term, true
	}
	x, is := m.at[i]
	return x.Term, is
}

func (m *model) fits(i, term uint64) bool {
	have, is := m.termOf(i)
	return is && have == term
}

func (m *model) fresh(i, term uint64) bool {
	last, have := m.last()
	return term > have || term == have && i >= last
}

func (m *model) hint(i, term uint64) (uint64, uint64) {
	place, have := m.shot.Index, m.shot.Term
	for at, x := range m.at {
		if at <= i && x.Term <= term && at > place {
			place, have = at, x.Term
		}
	}
	return place, have
}

func (m *model) confUpTo(most uint64) api.Conf {
	c, place := m.shot.Conf, m.shot.Index
	for at, x := range m.at {
		if x.Kind == api.EntryConf && at <= most && at > place {
			c, _ = msg.ToConf(x.Data)
			place = at
		}
	}
	return c
}

func (m *model) conf() api.Conf { return m.confUpTo(1 << 63) }

func (m *model) votes(id int) bool { return slices.Contains(m.conf().Voters, id) }

func (m *model) quorum(ids map[int]bool, self bool) bool {
	n, all := 0, m.conf().Voters
	for _, id := range all {
		if ids[id] || self && id == m.id {
			n++
		}
	}
	return 2*n > len(all)
}

func (m *model) members() []int {
	c := m.conf()
	all := slices.Concat(c.Voters, c.Learners)
	sort.Ints(all)
	return slices.DeleteFunc(all, func(id int) bool { return id == m.id })
}

// What it does.

func (m *model) tell(x api.Msg) {
	x.From = m.id
	if x.Term == 0 {
		x.Term = m.term
	}
	m.out.Msgs = append(m.out.Msgs, x)
}

func (m *model) follow(id int) {
	m.role, m.lead, m.yes = Follower, id, map[int]bool{}
	for _, w := range m.lm.waiting {
		m.out.Lost = append(m.out.Lost, w.id)
	}
	m.lm = leads{}
}

func (m *model) advance(now int64, draw uint64) {
	m.begin(now, draw)
	if m.role == Leader {
		if m.quorum(nil, true) {
			m.heard = m.now
		}
		if !(m.now < m.lm.checked+m.base) {
			if !m.quorum(m.lm.answered, true) {
				m.follow(0)
				m.due = m.now + m.set
				return
			}
			m.lm.checked, m.lm.answered = m.now, map[int]bool{}
		}
		if !(m.now < m.lm.giveDue) {
			m.lm.give = 0
		}
		if !(m.now < m.lm.beaten+m.beat) {
			m.beats()
		}
		return
	}
	if m.now < m.due {
		return
	}
	m.due = m.now + m.set
	if !m.votes(m.id) || m.term >= 1<<62 {
		return
	}
	m.follow(0)
	m.role, m.yes = Early, map[int]bool{m.id: true}
	if m.quorum(m.yes, false) {
		m.stand(false)
		return
	}
	m.ask(api.Msg{Kind: api.PreAsk, Term: m.term + 1})
}

func (m *model) ask(x api.Msg) {
	x.Index, x.LogTerm = m.last()
	for id := 1; id <= api.MaxNodes; id++ {
		if id != m.id && m.votes(id) {
			x.To = id
			m.tell(x)
		}
	}
}

func (m *model) stand(atOnce bool) {
	m.term, m.vote = m.term+1, m.id
	m.follow(0)
	m.role, m.due, m.yes = Candidate, m.now+m.set, map[int]bool{m.id: true}
	if m.quorum(m.yes, false) {
		m.leads()
		return
	}
	m.ask(api.Msg{Kind: api.VoteAsk, OK: atOnce})
}

func (m *model) leads() {
	m.follow(0)
	m.role, m.lead = Leader, m.id
	last, _ := m.last()
	m.lm = leads{began: map[uint64]int64{}, checked: m.now, stamp: m.now, answered: map[int]bool{}, peers: map[int]*modelPeer{}}
	for _, id := range m.members() {
		m.lm.peers[id] = &modelPeer{next: last + 1, told: true}
	}
	m.make(api.EntryNone, nil)
	m.counts()
	m.beats()
}

func (m *model) make(kind int, data []byte) uint64 {
	last, _ := m.last()
	if last == 1<<62 {
		return 0
	}
	m.at[last+1] = api.Entry{Index: last + 1, Term: m.term, Kind: kind, Delta: min(m.now-m.lm.stamp, api.MaxTerm), Data: slices.Clone(data)}
	m.lm.stamp = m.now
	return last + 1
}

// reached sorts what the voters have; the greatest that more than half reach is the one amid.
func (m *model) reached(own uint64, of func(*modelPeer) uint64) uint64 {
	var all []uint64
	for _, id := range m.conf().Voters {
		switch p := m.lm.peers[id]; {
		case id == m.id:
			all = append(all, own)
		case p != nil:
			all = append(all, of(p))
		default:
			all = append(all, 0)
		}
	}
	slices.Sort(all)
	return all[(len(all)-1)/2]
}

func (m *model) counts() {
	last, _ := m.last()
	n := m.reached(last, func(p *modelPeer) uint64 { return p.match })
	if term, is := m.termOf(n); is && n > m.commit && term == m.term {
		m.commit = n
	}
}

func (m *model) beats() {
	m.lm.beaten = m.now
	m.lm.round++
	m.lm.began[m.lm.round] = m.now
	for _, id := range m.members() {
		p := m.lm.peers[id]
		if !p.told {
			p.open, p.next, p.flight, p.asked = false, p.match+1, 0, false
		}
		p.told = false
		m.sends(id, true)
	}
	if m.quorum(nil, true) {
		m.lm.sure = m.lm.round
	}
}

func (m *model) sendAll() {
	for _, id := range m.members() {
		m.sends(id, false)
	}
}

func (m *model) sends(id int, force bool) {
	p := m.lm.peers[id]
	if !(p.next > m.shot.Index) {
		if !force && p.asked {
			return
		}
		if p.off > len(m.shot.Data) {
			p.off = 0
		}
		end := min(p.off+api.MaxChunk, len(m.shot.Data))
		p.asked = true
		m.tell(api.Msg{Kind: api.Chunk, To: id, Index: m.shot.Index, LogTerm: m.shot.Term, Round: m.lm.round, Conf: m.shot.Conf, Off: p.off, Data: m.shot.Data[p.off:end], OK: end == len(m.shot.Data)})
		return
	}
	var list []api.Entry
	if !(p.flight == api.MaxWindow || !p.open && p.flight > 0) {
		for i := p.next; len(list) < api.MaxBatch; i++ {
			x, is := m.at[i]
			if !is {
				break
			}
			list = append(list, x)
		}
	}
	if list == nil && !force {
		return
	}
	term, _ := m.termOf(p.next - 1)
	m.tell(api.Msg{Kind: api.Append, To: id, Index: p.next - 1, LogTerm: term, Commit: m.commit, Round: m.lm.round, Entries: list})
	if list != nil {
		p.flight++
		if p.open {
			p.next = list[len(list)-1].Index + 1
		}
	}
}

func (m *model) propose(data []byte, now int64) (uint64, api.Errno) {
	last, _ := m.last()
	switch {
	case m.role != Leader:
		return 0, api.ErrLead
	case len(data) > api.MaxFrame/16:
		return 0, api.ErrLarge
	case m.lm.give != 0 || last-m.commit >= 4096 || last == 1<<62:
		return 0, api.ErrBusy
	}
	m.begin(now, 0)
	place := m.make(api.EntryData, data)
	m.counts()
	m.sendAll()
	return place, api.OK
}

func (m *model) change(kind, id int, now int64) (uint64, api.Errno) {
	if m.role != Leader {
		return 0, api.ErrLead
	}
	last, _ := m.last()
	open := false
	for at, x := range m.at {
		open = open || at > m.commit && x.Kind == api.EntryConf
	}
	if open || !m.fits(m.commit, m.term) || m.lm.give != 0 || last == 1<<62 {
		return 0, api.ErrBusy
	}
	next, e := m.changed(kind, id)
	if e != api.OK {
		return 0, e
	}
	m.begin(now, 0)
	data, _ := msg.Conf(next)
	place := m.make(api.EntryConf, data)
	peers := m.lm.peers
	m.lm.peers = map[int]*modelPeer{}
	for _, id := range m.members() {
		m.lm.peers[id] = peers[id]
		if peers[id] == nil {
			m.lm.peers[id] = &modelPeer{next: place + 1, told: true}
		}
	}
	m.counts()
	m.sendAll()
	return place, api.OK
}

func (m *model) changed(kind, id int) (api.Conf, api.Errno) {
	if kind < 1 || kind > 3 || kind == 3 && id == m.id || id < 1 || id > 16 {
		return api.Conf{}, api.ErrArg
	}
	c := m.conf()
	voters, learners := map[int]bool{}, map[int]bool{}
	for _, id := range c.Voters {
		voters[id] = true
	}
	for _, id := range c.Learners {
		learners[id] = true
	}
	switch {
	case kind == 1 && (voters[id] || learners[id]):
		return api.Conf{}, api.ErrThere
	case kind == 2 && !learners[id], kind == 3 && !voters[id] && !learners[id]:
		return api.Conf{}, api.ErrNone
	case kind == 3 && voters[id] && len(voters) == 1:
		return api.Conf{}, api.ErrBusy
	}
	voters[id], learners[id] = kind == 2, kind == 1
	var next api.Conf
	for id := 1; id <= 16; id++ {
		if voters[id] {
			next.Voters = append(next.Voters, id)
		}
		if learners[id] {
			next.Learners = append(next.Learners, id)
		}
	}
	return next, api.OK
}

func (m *model) gives(to int, now int64) api.Errno {
	switch {
	case m.role != Leader:
		return api.ErrLead
	case to == m.id || !m.votes(to):
		return api.ErrNone
	case m.lm.give != 0:
		return api.ErrBusy
	}
	m.begin(now, 0)
	m.lm.give, m.lm.giveDue = to, m.now+m.base
	if last, _ := m.last(); m.lm.peers[to].match == last {
		m.lm.given = true
		m.tell(api.Msg{Kind: api.Now, To: to})
	}
	return api.OK
}

// guard reckons in numbers of any size.
func (m *model) guard() int64 {
	n := big.NewInt(m.base)
	for range 2 {
		n.Mul(n, big.NewInt(1000000))
		n.Div(n, big.NewInt(1000000+m.rho))
	}
	return n.Int64()
}

func (m *model) read(id uint64, lazy bool, now int64) api.Errno {
	if m.role != Leader {
		return api.ErrLead
	}
	if !m.fits(m.commit, m.term) {
		return api.ErrBusy
	}
	m.begin(now, 0)
	if lazy && !m.lm.given && m.now-m.heard < m.guard() {
		m.out.Ready = []Ready{{id, m.commit}}
		return api.OK
	}
	if m.quorum(nil, true) {
		m.out.Ready = []Ready{{id, m.commit}}
		return api.OK
	}
	m.lm.waiting = append(m.lm.waiting, waiting{id, m.commit, m.lm.round + 1})
	m.beats()
	return api.OK
}

func (m *model) keep(shot api.Shot) api.Errno {
	if _, e := msg.Shot(shot); e != api.OK {
		return api.ErrForm
	}
	if shot.Index > m.commit || !m.fits(shot.Index, shot.Term) || !same(shot.Conf, m.confUpTo(shot.Index)) {
		return api.ErrArg
	}
	for i := range m.at {
		if i <= shot.Index {
			delete(m.at, i)
		}
	}
	m.shot = shot
	return api.OK
}

func (m *model) recv(x api.Msg, now int64, draw uint64) {
	m.out = Out{}
	if _, e := msg.Msg(x); e != api.OK || x.To != m.id || x.From == m.id || x.Term > 1<<62 || x.Index > 1<<62 || x.LogTerm > 1<<62 {
		return
	}
	m.begin(now, draw)
	if x.Kind == api.PreAsk {
		if x.Term > m.term && m.fresh(x.Index, x.LogTerm) && !m.sure() {
			m.tell(api.Msg{Kind: api.PreAnswer, To: x.From, Term: x.Term, OK: true})
		} else {
			m.tell(api.Msg{Kind: api.PreAnswer, To: x.From})
		}
		return
	}
	if x.Kind == api.VoteAsk && x.Term > m.term && !x.OK && m.sure() {
		return
	}
	if x.Kind == api.PreAnswer && x.OK {
		if m.role == Early && x.Term == m.term+1 && m.votes(x.From) {
			m.yes[x.From] = true
			if m.quorum(m.yes, false) {
				m.stand(false)
			}
		}
		return
	}
	if x.Term > m.term {
		m.term, m.vote = x.Term, 0
		m.follow(0)
		m.due = m.now + m.set
	}
	if x.Term < m.term {
		if x.Kind == api.Append || x.Kind == api.Chunk {
			last, term := m.last()
			m.tell(api.Msg{Kind: api.Answer, To: x.From, Index: last, LogTerm: term})
		}
		if x.Kind == api.VoteAsk {
			m.tell(api.Msg{Kind: api.VoteAnswer, To: x.From})
		}
		return
	}
	m.byKind(x)
}

func (m *model) byKind(x api.Msg) {
	switch x.Kind {
	case api.VoteAsk:
		free := m.vote == 0 || m.vote == x.From
		if free && m.role != Leader && m.fresh(x.Index, x.LogTerm) && (x.OK || !m.sure()) {
			m.vote, m.due = x.From, m.now+m.set
			m.tell(api.Msg{Kind: api.VoteAnswer, To: x.From, OK: true})
		} else {
			m.tell(api.Msg{Kind: api.VoteAnswer, To: x.From})
		}
	case api.VoteAnswer:
		if m.role == Candidate && x.OK && m.votes(x.From) {
			m.yes[x.From] = true
			if m.quorum(m.yes, false) {
				m.leads()
			}
		}
	case api.Append, api.Chunk:
		if m.role == Leader {
			return
		}
		m.follow(x.From)
		m.heard, m.due = m.now, m.now+m.set
		if x.Kind == api.Append {
			m.append(x)
		} else {
			m.chunk(x)
		}
	case api.Answer, api.ChunkNext:
		if m.role == Leader && m.lm.peers[x.From] != nil {
			m.answer(x, m.lm.peers[x.From])
		}
	case api.Now:
		if m.votes(m.id) && m.role != Leader && m.term < 1<<62 {
			m.stand(true)
		}
	}
}

func (m *model) yesUpTo(x api.Msg, place uint64) {
	m.tell(api.Msg{Kind: api.Answer, To: x.From, OK: true, Index: place, Round: x.Round})
}

func (m *model) append(x api.Msg) {
	if x.Index < m.commit {
		m.yesUpTo(x, m.commit)
		return
	}
	term, fit := x.LogTerm, true
	for i, y := range x.Entries {
		fit = fit && y.Index == x.Index+uint64(i)+1 && y.Term >= term && y.Term <= m.term
		term = y.Term
	}
	if !fit {
		return
	}
	if !m.fits(x.Index, x.LogTerm) {
		i, term := m.hint(x.Index, x.LogTerm)
		m.tell(api.Msg{Kind: api.Answer, To: x.From, Index: i, LogTerm: term, Round: x.Round})
		return
	}
	for k, y := range x.Entries {
		if m.fits(y.Index, y.Term) {
			continue
		}
		for i := range m.at {
			if i >= y.Index {
				delete(m.at, i)
			}
		}
		for _, z := range x.Entries[k:] {
			z.Data = slices.Clone(z.Data)
			m.at[z.Index] = z
		}
		break
	}
	last := x.Index + uint64(len(x.Entries))
	m.commit = max(m.commit, min(x.Commit, last))
	m.yesUpTo(x, last)
}

func (m *model) chunk(x api.Msg) {
	if x.Index == 0 || x.LogTerm == 0 || x.LogTerm > m.term {
		return
	}
	if x.Index <= m.commit {
		m.yesUpTo(x, m.commit)
		return
	}
	if m.fits(x.Index, x.LogTerm) {
		m.commit = x.Index
		m.yesUpTo(x, x.Index)
		return
	}
	next, whole, done := m.joins(x)
	if !done {
		m.tell(api.Msg{Kind: api.ChunkNext, To: x.From, Index: x.Index, Off: next, Round: x.Round})
		return
	}
	m.shot = api.Shot{Index: x.Index, Term: x.LogTerm, Conf: x.Conf, Data: whole}
	m.at = map[uint64]api.Entry{}
	m.commit = x.Index
	m.out.Shot = true
	m.yesUpTo(x, x.Index)
}

// joins answers where the next piece begins, 0 beside an error, and with the last piece the whole.
func (m *model) joins(x api.Msg) (next int, whole []byte, done bool) {
	j := &m.join
	if j.index != x.Index || j.term != x.LogTerm {
		if x.Off != 0 {
			return 0, nil, false
		}
		j.index, j.term, j.data = x.Index, x.LogTerm, nil
	}
	if x.Off > len(j.data) {
		return 0, nil, false
	}
	if x.OK || x.Off+len(x.Data) > len(j.data) {
		j.data = slices.Concat(j.data[:x.Off], x.Data)
	}
	if len(j.data) > api.MaxFrame/2 {
		j.index, j.term, j.data = 0, 0, nil
		return 0, nil, false
	}
	if !x.OK {
		return len(j.data), nil, false
	}
	whole = j.data
	j.index, j.term, j.data = 0, 0, nil
	return 0, whole, true
}

func (m *model) answer(x api.Msg, p *modelPeer) {
	m.lm.answered[x.From] = true
	p.told = true
	if x.Round <= m.lm.round && x.Round > p.round {
		p.round = x.Round
	}
	last, _ := m.last()
	if x.Kind == api.Answer && x.OK && x.Index <= last {
		p.match = max(p.match, x.Index)
		if p.next <= x.Index {
			p.next = x.Index + 1
		}
		p.open = true
		if x.Index+1 >= p.next {
			p.flight = 0
		} else if p.flight > 0 {
			p.flight--
		}
		p.off, p.asked = 0, false
		m.counts()
		if x.From == m.lm.give && !m.lm.given && p.match == last {
			m.lm.given = true
			m.tell(api.Msg{Kind: api.Now, To: x.From})
		}
		m.sends(x.From, false)
	}
	if x.Kind == api.Answer && !x.OK && x.Index < p.next {
		place, _ := m.hint(x.Index, x.LogTerm)
		p.next = max(p.match+1, min(p.next-1, 1+place))
		p.open, p.flight = false, 0
		m.sends(x.From, false)
	}
	if x.Kind == api.ChunkNext && x.Index == m.shot.Index {
		p.off, p.asked = x.Off, false
		if p.next <= m.shot.Index {
			m.sends(x.From, false)
		}
	}
	m.rounds()
}

func (m *model) rounds() {
	n := m.reached(m.lm.round, func(p *modelPeer) uint64 { return p.round })
	if n <= m.lm.sure {
		return
	}
	m.lm.sure, m.heard = n, m.lm.began[n]
	var left []waiting
	for _, w := range m.lm.waiting {
		if w.round > n {
			left = append(left, w)
		} else {
			m.out.Ready = append(m.out.Ready, Ready{w.id, w.index})
		}
	}
	m.lm.waiting = left
}

func same(a, b api.Conf) bool {
	return slices.Equal(a.Voters, b.Voters) && slices.Equal(a.Learners, b.Learners)
}
