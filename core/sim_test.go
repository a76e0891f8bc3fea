package core

import (
	"fmt"
	"maps"
	"math"
	"math/rand"
	"slices"
	"testing"

	"scupper/api"
	"scupper/msg"
)

// pair is a node and its model.
type pair struct {
	*Core
	m *model
}

// sim is a cluster whose nodes' clocks and messages go as they like.
type sim struct {
	t     *testing.T
	r     *rand.Rand
	s     api.Setting
	nodes []*pair // node 1 first
	now   []int64
	way   []api.Msg
	wild  bool // messages come that no node sent, and clocks go back
	seen  map[string]int
	// What no two nodes may differ in.
	led     map[uint64]int
	settled map[uint64]string
}

func newSim(t *testing.T, seed int64, wild bool) *sim {
	r := rand.New(rand.NewSource(seed))
	base := int64(5 + r.Intn(15))
	s := &sim{t: t, r: r, wild: wild, seen: map[string]int{}, led: map[uint64]int{}, settled: map[uint64]string{}}
	s.s = api.Setting{Base: base, Spread: 1 + r.Int63n(2*base), Beat: 1 + r.Int63n(base), Rho: r.Int63n(api.MaxRho + 1)}
	var c api.Conf
	n := 1 + r.Intn(6)
	for id := 1; id <= n; id++ {
		if id == 1 || r.Intn(4) > 0 {
			c.Voters = append(c.Voters, id)
		} else if r.Intn(2) > 0 {
			c.Learners = append(c.Learners, id)
		}
	}
	for id := 1; id <= n; id++ {
		draw := r.Uint64()
		shot := api.Shot{Conf: c}
		node, e := New(id, api.Hard{}, shot, nil, s.s, 0, draw)
		if e != api.OK {
			t.Fatalf("New: %d", e)
		}
		s.nodes = append(s.nodes, &pair{node, newModel(id, api.Hard{}, shot, nil, s.s, 0, draw)})
		s.now = append(s.now, 0)
	}
	return s
}

// words tells all that a node tells of itself.
func (c *Core) words() string {
	hard, role, lead, commit := c.State()
	base, term := c.Log().Base()
	list, _ := c.Log().From(base+1, math.MaxInt)
	return fmt.Sprint(hard, role, lead, commit, c.Conf(), c.Shot(), base, term, list)
}

func (m *model) words() string {
	var list []api.Entry
	for _, i := range slices.Sorted(maps.Keys(m.at)) {
		list = append(list, m.at[i])
	}
	return fmt.Sprint(api.Hard{Term: m.term, Vote: m.vote}, m.role, m.lead, m.commit, m.conf(), m.shot, m.shot.Index, m.shot.Term, list)
}

// holds holds a node and what it answered against the model.
func (s *sim) holds(p *pair, what string, out Out, more ...any) {
	s.t.Helper()
	if got, want := fmt.Sprint(out), fmt.Sprint(p.m.out); got != want {
		s.t.Fatalf("%s of node %d answers\n%s\nwant\n%s", what, p.m.id, got, want)
	}
	if len(more) > 0 && more[0] != more[1] {
		s.t.Fatalf("%s of node %d: %v; want %v", what, p.m.id, more[0], more[1])
	}
	if got, want := p.Core.words(), p.m.words(); got != want {
		s.t.Fatalf("behind %s node %d is\n%s\nwant\n%s", what, p.m.id, got, want)
	}
	s.note(p, out)
}

// note notes what came about, so that what never comes about is seen.
func (s *sim) note(p *pair, out Out) {
	for _, m := range out.Msgs {
		s.seen[fmt.Sprintf("kind %d, %t", m.Kind, m.OK)]++
		if len(m.Entries) > 1 {
			s.seen["entries"]++
		}
	}
	s.seen[fmt.Sprintf("role %d", p.m.role)]++
	s.seen["ready"] += len(out.Ready)
	s.seen["lost"] += len(out.Lost)
	if out.Shot {
		s.seen["shot"]++
	}
	if p.m.lm.give != 0 {
		s.seen["give"]++
	}
}

// send sends what a node told, and spoils the lists it came in.
func (s *sim) send(out Out) {
	for _, m := range out.Msgs {
		s.way = append(s.way, cloned(m))
		spoil(m)
	}
	if len(s.way) > 60 {
		s.way = s.way[len(s.way)-60:]
	}
}

func cloned(m api.Msg) api.Msg {
	m.Entries = slices.Clone(m.Entries)
	for i := range m.Entries {
		m.Entries[i].Data = slices.Clone(m.Entries[i].Data)
	}
	m.Conf = cloneConf(m.Conf)
	m.Data = slices.Clone(m.Data)
	return m
}

// spoil writes over all lists of a message, spare room included.
func spoil(m api.Msg) {
	for i := range m.Entries {
		wipe(m.Entries[i].Data)
		m.Entries[i] = api.Entry{Index: 99}
	}
	spoilConf(m.Conf)
	wipe(m.Data)
}

func spoilConf(c api.Conf) {
	for _, list := range [][]int{c.Voters, c.Learners} {
		list = list[:cap(list)]
		for i := range list {
			list[i] = 13
		}
	}
}

func wipe(b []byte) {
	b = b[:cap(b)]
	for i := range b {
		b[i] = 0xee
	}
}

// pick answers a node, most often one that leads.
func (s *sim) pick() *pair {
	p := s.nodes[s.r.Intn(len(s.nodes))]
	for range 4 {
		if p.m.role != Leader {
			p = s.nodes[s.r.Intn(len(s.nodes))]
		}
	}
	return p
}

// clock answers what a node's clock shows.
func (s *sim) clock(p *pair) int64 {
	now := &s.now[p.m.id-1]
	switch k := s.r.Intn(100); {
	case k < 1:
		*now += s.r.Int63n(s.s.Base)
	case k < 10:
		*now += 1
	case k < 12 && s.wild:
		return *now - s.r.Int63n(2*s.s.Base)
	}
	return *now
}

func (s *sim) draw() uint64 {
	if s.r.Intn(2) == 0 {
		return uint64(s.r.Intn(4))
	}
	return s.r.Uint64()
}

// act does one thing to a node.
func (s *sim) act(p *pair) Out {
	now, draw := s.clock(p), s.draw()
	switch k := s.r.Intn(1000); {
	case k < 200:
		s.now[p.m.id-1] += int64(s.r.Intn(3))
		p.m.advance(now, draw)
		out := p.Advance(now, draw)
		s.holds(p, "Advance", out)
		return out
	case k < 650:
		return s.come(p, now, draw)
	case k < 750:
		return s.propose(p, now)
	case k < 820:
		return s.change(p, now)
	case k < 840:
		to := s.r.Intn(len(s.nodes) + 2)
		p.m.out = Out{}
		want := p.m.gives(to, now)
		out, e := p.Give(to, now)
		s.holds(p, "Give", out, e, want)
		return out
	case k < 910:
		id, lazy := s.r.Uint64(), s.r.Intn(2) == 0
		p.m.out = Out{}
		want := p.m.read(id, lazy, now)
		out, e := p.Read(id, lazy, now)
		s.holds(p, "Read", out, e, want)
		return out
	case k < 980:
		s.keep(p)
	case k < 985:
		s.restart(p, now, draw)
	default:
		s.fork(p)
	}
	return Out{}
}

// come lets a message come to a node; in a wild sim, one that nobody sent.
func (s *sim) come(p *pair, now int64, draw uint64) Out {
	var m api.Msg
	at := slices.IndexFunc(s.way, func(m api.Msg) bool { return m.To == p.m.id && s.r.Intn(3) == 0 })
	if s.wild && s.r.Intn(12) == 0 {
		m = s.any(p)
	} else if at >= 0 {
		m = cloned(s.way[at])
		if s.wild && s.r.Intn(12) == 0 {
			s.twist(&m, p)
		}
		if s.r.Intn(8) > 0 {
			s.way = slices.Delete(s.way, at, at+1)
		}
	} else {
		return Out{}
	}
	p.m.recv(cloned(m), now, draw)
	out := p.Recv(m, now, draw)
	spoil(m)
	s.holds(p, fmt.Sprintf("Recv %v", m), out)
	return out
}

func (s *sim) propose(p *pair, now int64) Out {
	data := make([]byte, s.r.Intn(4))
	if s.r.Intn(50) == 0 {
		data = make([]byte, api.MaxFrame/16+s.r.Intn(2))
	}
	p.m.out = Out{}
	place, want := p.m.propose(data, now)
	got, out, e := p.Propose(data, now)
	wipe(data)
	s.holds(p, "Propose", out, [2]uint64{got, uint64(e)}, [2]uint64{place, uint64(want)})
	return out
}

func (s *sim) change(p *pair, now int64) Out {
	kind, id := 1+s.r.Intn(3), 1+s.r.Intn(len(s.nodes))
	if learners := p.m.conf().Learners; kind == 2 && len(learners) > 0 {
		id = learners[s.r.Intn(len(learners))]
	}
	if s.r.Intn(10) == 0 {
		kind, id = s.r.Intn(6)-1, s.r.Intn(40)-10
	}
	p.m.out = Out{}
	place, want := p.m.change(kind, id, now)
	got, out, e := p.Change(kind, id, now)
	s.holds(p, "Change", out, [2]uint64{got, uint64(e)}, [2]uint64{place, uint64(want)})
	if e == api.OK {
		s.seen[fmt.Sprintf("change %d", kind)]++
	}
	return out
}

// keep lets a node keep a snapshot, at times a wrong one.
func (s *sim) keep(p *pair) {
	i := p.m.shot.Index + uint64(s.r.Int63n(int64(p.m.commit-p.m.shot.Index)+1))
	if s.r.Intn(10) == 0 {
		i = p.m.commit + uint64(s.r.Intn(3)) - 1
	}
	term, _ := p.m.termOf(i)
	shot := api.Shot{Index: i, Term: term, Conf: cloneConf(p.m.confUpTo(i)), Data: make([]byte, []int{0, 3, 256, 257, 600}[s.r.Intn(5)])}
	s.r.Read(shot.Data)
	switch s.r.Intn(12) {
	case 0:
		shot.Term++
	case 1:
		shot.Conf = cloneConf(p.m.conf())
	case 2:
		shot.Conf.Learners = append(shot.Conf.Learners, 14)
	case 3:
		shot.Conf.Voters = nil
	}
	kept := shot
	kept.Conf, kept.Data = cloneConf(shot.Conf), slices.Clone(shot.Data)
	want := p.m.keep(kept)
	p.m.out = Out{}
	e := p.Keep(shot)
	spoilConf(shot.Conf)
	wipe(shot.Data)
	s.holds(p, "Keep", Out{}, e, want)
	if e == api.OK && len(kept.Data) > 256 {
		s.seen["kept"]++
	}
}

// restart lets a node start anew with what it has.
func (s *sim) restart(p *pair, now int64, draw uint64) {
	hard, _, _, _ := p.State()
	base, _ := p.Log().Base()
	list, _ := p.Log().From(base+1, math.MaxInt)
	now = max(now, 0)
	c, e := New(p.m.id, hard, p.Shot(), list, s.s, now, draw)
	if e != api.OK {
		s.t.Fatalf("New of what a node has: %d", e)
	}
	p.Core, p.m = c, newModel(p.m.id, hard, p.Shot(), slices.Clone(list), s.s, now, draw)
	s.holds(p, "New", Out{})
}

// fork lets a copy of a node go its own way for some time; what it does is nothing to the node.
func (s *sim) fork(p *pair) {
	twin := &pair{p.Copy(), p.m.copy()}
	way, now := slices.Clone(s.way), slices.Clone(s.now)
	for range 1 + s.r.Intn(10) {
		s.send(s.act(twin))
	}
	s.way, s.now = way, now
	p.m.out = Out{}
	s.holds(p, "Copy", Out{})
}

// near answers a number near another one, or one at an end.
func (s *sim) near(n uint64) uint64 {
	switch s.r.Intn(60) {
	case 0:
		return 1<<62 - 1 + uint64(s.r.Intn(3))
	case 1:
		return math.MaxUint64
	case 2:
		return 0
	}
	return n - min(n, 3) + uint64(s.r.Intn(6))
}

// any answers a message that nobody sent.
func (s *sim) any(p *pair) api.Msg {
	last, term := p.m.last()
	m := api.Msg{Kind: 1 + s.r.Intn(9), From: 1 + s.r.Intn(len(s.nodes)+1), To: p.m.id, Term: p.m.term - min(p.m.term, uint64(s.r.Intn(10)/8)) + uint64(s.r.Intn(10)/9), Index: s.near(last), LogTerm: s.near(term), Commit: s.near(p.m.commit), Round: s.near(p.m.lm.round), OK: s.r.Intn(2) == 0, Off: s.r.Intn(5) * 128}
	switch m.Kind {
	case api.Append:
		s.fill(&m, p)
	case api.Chunk:
		m.Conf = api.Conf{Voters: []int{1, 2}, Learners: []int{3}}
		m.Data = make([]byte, s.r.Intn(2)*128)
		s.r.Read(m.Data)
		if s.r.Intn(2) == 0 {
			m.Index = p.m.commit + 1
		}
		if s.r.Intn(2) == 0 {
			m.Off = 0
		}
	case api.ChunkNext:
		if s.r.Intn(2) == 0 {
			m.Index = p.m.shot.Index
		}
	}
	if s.r.Intn(15) == 0 {
		s.twist(&m, p)
	}
	return m
}

// fill lets a message have entries that follow some place of the log.
func (s *sim) fill(m *api.Msg, p *pair) {
	last, _ := p.m.last()
	m.Index = p.m.commit + uint64(s.r.Int63n(int64(last-p.m.commit)+2))
	term, _ := p.m.termOf(m.Index)
	m.LogTerm = term
	for i := range uint64(s.r.Intn(5)) {
		if s.r.Intn(3) == 0 {
			term++
		}
		x := api.Entry{Index: m.Index + i + 1, Term: term, Kind: api.EntryData, Data: []byte{byte(s.r.Intn(9))}}
		if s.r.Intn(4) == 0 {
			x.Kind = api.EntryConf
			x.Data, _ = msg.Conf(api.Conf{Voters: []int{1, 2 + s.r.Intn(2)}})
		}
		m.Entries = append(m.Entries, x)
	}
}

// twist changes something of a message.
func (s *sim) twist(m *api.Msg, p *pair) {
	switch s.r.Intn(12) {
	case 0:
		m.Kind = s.r.Intn(12) - 1
	case 1:
		m.From = s.r.Intn(len(s.nodes) + 2)
	case 2:
		m.To = s.r.Intn(len(s.nodes) + 2)
	case 3:
		m.Term = p.m.term + uint64(s.r.Intn(4)) - min(p.m.term, 2)
		if s.r.Intn(60) == 0 {
			m.Term = s.near(m.Term)
		}
	case 4:
		m.Index = s.near(m.Index)
	case 5:
		m.LogTerm = s.near(m.LogTerm)
	case 6:
		m.Round = s.near(m.Round)
	case 7:
		m.OK = !m.OK
	case 8:
		m.Off = s.r.Intn(4)*200 - 100
	case 9:
		m.Conf.Voters = []int{1, 3}[s.r.Intn(2):]
	case 10:
		m.Commit = s.near(m.Commit)
	case 11:
		for i := range m.Entries {
			m.Entries[i].Term = s.near(m.Entries[i].Term)
		}
	}
}

// agree holds the nodes against one another: who leads in a term, and what is settled.
func (s *sim) agree(p *pair) {
	if p.m.role == Leader {
		if id, is := s.led[p.m.term]; is && id != p.m.id {
			s.t.Fatalf("nodes %d and %d lead in term %d", id, p.m.id, p.m.term)
		}
		s.led[p.m.term] = p.m.id
	}
	for i, x := range p.m.at {
		if i > p.m.commit {
			continue
		}
		word := fmt.Sprint(x)
		if have, is := s.settled[i]; is && have != word {
			s.t.Fatalf("settled at %d: %s and %s", i, have, word)
		}
		s.settled[i] = word
	}
}

// run does so many things.
func (s *sim) run(n int) {
	for range n {
		p := s.pick()
		var out Out
		if len(s.way) > 0 && s.r.Intn(3) > 0 {
			if to := s.way[s.r.Intn(len(s.way))].To; to <= len(s.nodes) {
				p = s.nodes[to-1]
			}
			out = s.come(p, s.clock(p), s.draw())
		} else {
			out = s.act(p)
		}
		s.send(out)
		if !s.wild {
			s.agree(p)
		}
	}
}

// runAll runs many clusters side by side, and asks that each thing there is came about often enough to be held against the model.
func runAll(t *testing.T, wild bool) {
	const workers, each = 8, 10
	seen := make([]map[string]int, workers)
	t.Run("clusters", func(t *testing.T) {
		for k := range workers {
			seen[k] = map[string]int{}
			t.Run(fmt.Sprint(k), func(t *testing.T) {
				t.Parallel()
				for n := range each {
					s := newSim(t, int64(k*each+n), wild)
					s.run(1500)
					for what, n := range s.seen {
						seen[k][what] += n
					}
				}
			})
		}
	})
	all := map[string]int{}
	for _, some := range seen {
		for what, n := range some {
			all[what] += n
		}
	}
	for _, what := range []string{"role 1", "role 2", "role 3", "role 4", "kind 1, false", "kind 2, false", "kind 2, true", "kind 3, false", "kind 3, true", "kind 4, false", "kind 4, true", "kind 5, false", "kind 6, false", "kind 6, true", "kind 7, false", "kind 7, true", "kind 8, false", "kind 9, false", "entries", "ready", "lost", "shot", "give", "kept", "change 1", "change 2", "change 3"} {
		if all[what] < 10 {
			t.Errorf("%s: %d times", what, all[what])
		}
	}
	if testing.Verbose() {
		t.Log(all)
	}
}

// P12.1: all calls, at clusters whose messages are lost, doubled and turned round, do what the model does; and no two nodes lead in one term or differ in what is settled.
func TestClusters(t *testing.T) { runAll(t, false) }

// P12.1: so do they when messages come that nobody sent, and clocks go back.
func TestWildClusters(t *testing.T) { runAll(t, true) }
