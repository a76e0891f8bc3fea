package core

import (
	"fmt"
	"math"
	"slices"
	"strings"
	"testing"

	"scupper/api"
	"scupper/msg"
)

// top is the greatest place and the greatest term.
const top = uint64(1) << 62

// plain is a setting by which a node waits from 10 to 15, and a leader beats each 4.
var plain = api.Setting{Base: 10, Spread: 5, Beat: 4}

var kinds = []string{"none", "PreAsk", "PreAnswer", "VoteAsk", "VoteAnswer", "Append", "Answer", "Chunk", "ChunkNext", "Now", "ten"}

var roles = []string{"none", "Follower", "Early", "Candidate", "Leader"}

// wordConf tells who votes, and behind a | who learns.
func wordConf(c api.Conf) string {
	word := strings.Trim(strings.ReplaceAll(fmt.Sprint(c.Voters), " ", ","), "[]")
	for _, id := range c.Learners {
		word += fmt.Sprintf("|%d", id)
	}
	return word
}

func wordEntries(list []api.Entry) string {
	var words []string
	for _, x := range list {
		word := fmt.Sprintf("%d/%d", x.Index, x.Term)
		switch x.Kind {
		case api.EntryNone:
			word += "-"
		case api.EntryData:
			word += "=" + string(x.Data)
		case api.EntryConf:
			c, _ := msg.ToConf(x.Data)
			word += "{" + wordConf(c) + "}"
		}
		if x.Delta != 0 {
			word += fmt.Sprintf("+%d", x.Delta)
		}
		words = append(words, word)
	}
	return strings.Join(words, " ")
}

// wordMsg tells kind, To, Term, Index and LogTerm, and what else there is; whom it is from, the hand that holds it asks.
func wordMsg(m api.Msg) string {
	word := fmt.Sprintf("%s>%d t%d %d/%d", kinds[m.Kind], m.To, m.Term, m.Index, m.LogTerm)
	for _, x := range []struct {
		what string
		n    uint64
	}{{"c", m.Commit}, {"r", m.Round}, {"off", uint64(m.Off)}} {
		if x.n != 0 {
			word += fmt.Sprintf(" %s%d", x.what, x.n)
		}
	}
	if m.OK {
		word += " yes"
	}
	if len(m.Entries) > 0 {
		word += " [" + wordEntries(m.Entries) + "]"
	}
	if len(m.Conf.Voters) > 0 {
		word += " {" + wordConf(m.Conf) + "}"
	}
	if len(m.Data) > 0 {
		word += " " + short(m.Data)
	}
	return word
}

// short tells a few data as they are, and of many how many there are.
func short(data []byte) string {
	if len(data) > 20 {
		return fmt.Sprintf("%d:%c..%c", len(data), data[0], data[len(data)-1])
	}
	return string(data)
}

func wordOut(out Out) string {
	var words []string
	for _, m := range out.Msgs {
		words = append(words, wordMsg(m))
	}
	if out.Shot {
		words = append(words, "shot")
	}
	for _, x := range out.Ready {
		words = append(words, fmt.Sprintf("ready %d@%d", x.ID, x.Index))
	}
	for _, id := range out.Lost {
		words = append(words, fmt.Sprintf("lost %d", id))
	}
	return strings.Join(words, "; ")
}

// wordCore tells role, Lead, Term, Vote, Commit and log.
func wordCore(c *Core) string {
	hard, role, lead, commit := c.State()
	base, term := c.Log().Base()
	list, _ := c.Log().From(base+1, math.MaxInt)
	return strings.TrimSpace(fmt.Sprintf("%s of %d, t%d v%d c%d, %d/%d: %s", roles[role], lead, hard.Term, hard.Vote, commit, base, term, wordEntries(list)))
}

// hand holds a node by hand.
type hand struct {
	t  *testing.T
	c  *Core
	id int
}

func (h hand) told(what string, out Out, want string) {
	h.t.Helper()
	if got := wordOut(out); got != want {
		h.t.Errorf("%s:\n%s\nwant\n%s", what, got, want)
	}
	for _, m := range out.Msgs {
		if m.From != h.id {
			h.t.Errorf("%s: from %d", what, m.From)
		}
	}
}

func (h hand) is(want string) {
	h.t.Helper()
	if got := wordCore(h.c); got != want {
		h.t.Errorf("the node is\n%s\nwant\n%s", got, want)
	}
}

func (h hand) advance(now int64, draw uint64, want string) {
	h.t.Helper()
	h.told(fmt.Sprintf("Advance(%d, %d)", now, draw), h.c.Advance(now, draw), want)
}

// recv lets a message come to the node, with draw 0.
func (h hand) recv(m api.Msg, now int64, want string) {
	h.t.Helper()
	m.To = h.id
	h.told(fmt.Sprintf("Recv of %s from %d at %d", wordMsg(m), m.From, now), h.c.Recv(m, now, 0), want)
}

func (h hand) propose(data string, now int64, place uint64, e api.Errno, want string) {
	h.t.Helper()
	got, out, have := h.c.Propose([]byte(data), now)
	if got != place || have != e {
		h.t.Errorf("Propose: %d, %d; want %d, %d", got, have, place, e)
	}
	h.told("Propose", out, want)
}

func (h hand) change(kind, id int, now int64, place uint64, e api.Errno, want string) {
	h.t.Helper()
	got, out, have := h.c.Change(kind, id, now)
	if got != place || have != e {
		h.t.Errorf("Change(%d, %d): %d, %d; want %d, %d", kind, id, got, have, place, e)
	}
	h.told("Change", out, want)
}

func (h hand) give(to int, now int64, e api.Errno, want string) {
	h.t.Helper()
	out, have := h.c.Give(to, now)
	if have != e {
		h.t.Errorf("Give(%d): %d; want %d", to, have, e)
	}
	h.told("Give", out, want)
}

func (h hand) read(id uint64, lazy bool, now int64, e api.Errno, want string) {
	h.t.Helper()
	out, have := h.c.Read(id, lazy, now)
	if have != e {
		h.t.Errorf("Read(%d, %t): %d; want %d", id, lazy, have, e)
	}
	h.told("Read", out, want)
}

func (h hand) keep(shot api.Shot, e api.Errno) {
	h.t.Helper()
	if have := h.c.Keep(shot); have != e {
		h.t.Errorf("Keep of %v: %d; want %d", shot, have, e)
	}
}

// of makes a configuration of who votes and who learns.
func of(voters []int, learners ...int) api.Conf { return api.Conf{Voters: voters, Learners: learners} }

var three = of([]int{1, 2, 3})

// row makes entries of data, one a term, behind a place.
func row(behind uint64, terms ...uint64) []api.Entry {
	var list []api.Entry
	for i, term := range terms {
		list = append(list, api.Entry{Index: behind + uint64(i) + 1, Term: term, Kind: api.EntryData, Data: []byte{'a' + byte(i)}})
	}
	return list
}

func confEntry(i, term uint64, c api.Conf) api.Entry {
	data, _ := msg.Conf(c)
	return api.Entry{Index: i, Term: term, Kind: api.EntryConf, Data: data}
}

// start starts node id at 0 with draw 0: it is due at 10.
func start(t *testing.T, id int, hard api.Hard, shot api.Shot, list ...api.Entry) hand {
	t.Helper()
	c, e := New(id, hard, shot, list, plain, 0, 0)
	if e != api.OK {
		t.Fatalf("New: %d", e)
	}
	return hand{t, c, id}
}

// fresh starts node 1 of three, with nothing.
func fresh(t *testing.T) hand { return start(t, 1, api.Hard{}, api.Shot{Conf: three}) }

// leading starts node 1 and lets it lead at 10, all others having voted for it. Of what it sends then, nothing has come.
func leading(t *testing.T, hard api.Hard, shot api.Shot, list ...api.Entry) hand {
	t.Helper()
	h := start(t, 1, hard, shot, list...)
	h.c.Advance(10, 0)
	for _, kind := range []int{api.PreAnswer, api.VoteAnswer} {
		for _, id := range h.c.Conf().Voters {
			h.c.Recv(api.Msg{Kind: kind, From: id, To: 1, Term: hard.Term + 1, OK: true}, 10, 0)
		}
	}
	if _, role, _, _ := h.c.State(); role != Leader {
		t.Fatalf("it does not lead: %s", wordCore(h.c))
	}
	return h
}

// yes is the answer of a node that it has all up to a place.
func yes(from int, term, index, round uint64) api.Msg {
	return api.Msg{Kind: api.Answer, From: from, Term: term, Index: index, Round: round, OK: true}
}

// The chapter's first example.
func TestAlone(t *testing.T) {
	h := start(t, 1, api.Hard{}, api.Shot{Conf: of([]int{1})})
	h.is("Follower of 0, t0 v0 c0, 0/0:")
	h.advance(9, 0, "")
	h.is("Follower of 0, t0 v0 c0, 0/0:")
	h.advance(10, 0, "")
	h.is("Leader of 1, t1 v1 c1, 0/0: 1/1-")
	h.propose("x", 13, 2, api.OK, "")
	h.is("Leader of 1, t1 v1 c2, 0/0: 1/1- 2/1=x+3")
	h.read(7, false, 13, api.OK, "ready 7@2")
	h.read(8, true, 13, api.OK, "ready 8@2")
}

// The chapter's second example.
func TestThree(t *testing.T) {
	h := fresh(t)
	h.advance(10, 0, "PreAsk>2 t1 0/0; PreAsk>3 t1 0/0")
	h.is("Early of 0, t0 v0 c0, 0/0:")
	h.recv(api.Msg{Kind: api.PreAnswer, From: 2, Term: 1, OK: true}, 10, "VoteAsk>2 t1 0/0; VoteAsk>3 t1 0/0")
	h.is("Candidate of 0, t1 v1 c0, 0/0:")
	h.recv(api.Msg{Kind: api.VoteAnswer, From: 3, Term: 1, OK: true}, 10, "Append>2 t1 0/0 r1 [1/1-]; Append>3 t1 0/0 r1 [1/1-]")
	h.is("Leader of 1, t1 v1 c0, 0/0: 1/1-")
	h.recv(yes(2, 1, 1, 1), 11, "")
	h.is("Leader of 1, t1 v1 c1, 0/0: 1/1-")
}

// The roles' numbers.
func TestRoles(t *testing.T) {
	if Follower != 1 || Early != 2 || Candidate != 3 || Leader != 4 {
		t.Errorf("%d, %d, %d, %d", Follower, Early, Candidate, Leader)
	}
}

// P12.1, New: what may not be is ErrArg.
func TestNewArgs(t *testing.T) {
	shot := api.Shot{Conf: three}
	for _, x := range []struct {
		id    int
		base  int64
		spred int64
		beat  int64
		rho   int64
		now   int64
		want  api.Errno
	}{
		{1, 1, 1, 1, 0, 0, api.OK}, {16, 1 << 30, 1 << 30, 1 << 30, api.MaxRho, 1 << 60, api.OK},
		{0, 9, 9, 9, 0, 0, api.ErrArg}, {17, 9, 9, 9, 0, 0, api.ErrArg}, {-1, 9, 9, 9, 0, 0, api.ErrArg}, {math.MaxInt, 9, 9, 9, 0, 0, api.ErrArg}, {math.MinInt, 9, 9, 9, 0, 0, api.ErrArg},
		{1, 0, 9, 9, 0, 0, api.ErrArg}, {1, 1<<30 + 1, 9, 9, 0, 0, api.ErrArg}, {1, -1, 9, 9, 0, 0, api.ErrArg}, {1, math.MaxInt64, 9, 9, 0, 0, api.ErrArg},
		{1, 9, 0, 9, 0, 0, api.ErrArg}, {1, 9, 1<<30 + 1, 9, 0, 0, api.ErrArg}, {1, 9, math.MinInt64, 9, 0, 0, api.ErrArg},
		{1, 9, 9, 0, 0, 0, api.ErrArg}, {1, 9, 9, 1<<30 + 1, 0, 0, api.ErrArg}, {1, 9, 9, math.MaxInt64, 0, 0, api.ErrArg},
		{1, 9, 9, 9, -1, 0, api.ErrArg}, {1, 9, 9, 9, api.MaxRho + 1, 0, api.ErrArg},
		{1, 9, 9, 9, 0, -1, api.ErrArg}, {1, 9, 9, 9, 0, math.MinInt64, api.ErrArg},
	} {
		s := api.Setting{Base: x.base, Spread: x.spred, Beat: x.beat, Rho: x.rho}
		for _, draw := range []uint64{0, 7, math.MaxUint64} {
			c, e := New(x.id, api.Hard{}, shot, nil, s, x.now, draw)
			if e != x.want || (c == nil) == (e == api.OK) {
				t.Errorf("New of %+v: %v, %d", x, c, e)
			}
		}
		// R2: ErrArg ahead of ErrForm.
		if _, e := New(x.id, api.Hard{Vote: -1}, api.Shot{}, row(7, 0), s, x.now, 0); x.want != api.OK && e != api.ErrArg {
			t.Errorf("New of %+v with nothing sound: %d", x, e)
		}
	}
	// What of a setting is not a node's is nothing to it.
	wide := api.Setting{Nodes: -1, Voters: 99, Edges: -5, Base: 1, Spread: 1, Beat: 1, Disk: -1, Post: -1, Keep: -1}
	if _, e := New(9, api.Hard{}, shot, nil, wide, 0, 0); e != api.OK {
		t.Errorf("New of %+v: %d", wide, e)
	}
}

// P12.1, New: what does not fit together is ErrForm.
func TestNewForms(t *testing.T) {
	at := func(index, term uint64) api.Shot { return api.Shot{Index: index, Term: term, Conf: three} }
	for what, x := range map[string]struct {
		hard api.Hard
		shot api.Shot
		list []api.Entry
		want api.Errno
	}{
		"nothing":                    {api.Hard{}, at(0, 0), nil, api.OK},
		"a vote":                     {api.Hard{Term: 0, Vote: 16}, at(0, 0), nil, api.OK},
		"a vote that is none":        {api.Hard{Term: 3, Vote: 17}, at(0, 0), nil, api.ErrForm},
		"a vote below 0":             {api.Hard{Term: 3, Vote: -1}, at(0, 0), nil, api.ErrForm},
		"the greatest term":          {api.Hard{Term: top}, at(top, top), nil, api.OK},
		"a term above all":           {api.Hard{Term: top + 1}, at(0, 0), nil, api.ErrForm},
		"the greatest number":        {api.Hard{Term: math.MaxUint64}, at(0, 0), nil, api.ErrForm},
		"the shot's term":            {api.Hard{Term: 3}, at(5, 3), nil, api.OK},
		"a term below the shot's":    {api.Hard{Term: 2}, at(5, 3), nil, api.ErrForm},
		"no conf":                    {api.Hard{Term: 3}, api.Shot{Index: 5, Term: 3}, nil, api.ErrForm},
		"a place without a term":     {api.Hard{Term: 3}, at(5, 0), nil, api.ErrForm},
		"a term without a place":     {api.Hard{Term: 3}, at(0, 3), nil, api.ErrForm},
		"a place above all":          {api.Hard{Term: 3}, at(top+1, 3), nil, api.ErrForm},
		"too many data":              {api.Hard{Term: 3}, api.Shot{Index: 5, Term: 3, Conf: three, Data: make([]byte, api.MaxFrame/2+1)}, nil, api.ErrForm},
		"as many data as may be":     {api.Hard{Term: 3}, api.Shot{Index: 5, Term: 3, Conf: three, Data: make([]byte, api.MaxFrame/2)}, nil, api.OK},
		"data at place 0":            {api.Hard{}, api.Shot{Conf: three, Data: []byte{1}}, nil, api.OK},
		"a list":                     {api.Hard{Term: 4}, at(5, 3), row(5, 3, 3, 4), api.OK},
		"a list above the term":      {api.Hard{Term: 4}, at(5, 3), row(5, 3, 3, 5), api.ErrForm},
		"a list behind a gap":        {api.Hard{Term: 4}, at(5, 3), row(6, 3), api.ErrForm},
		"a list that begins earlier": {api.Hard{Term: 4}, at(5, 3), row(4, 3, 3), api.ErrForm},
		"a list below the shot":      {api.Hard{Term: 4}, at(5, 3), row(5, 2), api.ErrForm},
		"terms that fall":            {api.Hard{Term: 4}, at(5, 3), row(5, 4, 3), api.ErrForm},
		"an entry that is not sound": {api.Hard{Term: 4}, at(5, 3), []api.Entry{{Index: 6, Term: 3}}, api.ErrForm},
		"a list at the greatest":     {api.Hard{Term: top}, at(top-1, 3), row(top-1, top), api.OK},
		"a list beyond it":           {api.Hard{Term: top}, at(top, 3), row(top, top), api.ErrForm},
	} {
		c, e := New(2, x.hard, x.shot, x.list, plain, 0, 0)
		if e != x.want || (c == nil) == (e == api.OK) {
			t.Errorf("%s: %v, %d; want %d", what, c, e, x.want)
		}
	}
}

// P12.1, New: it has what it is given.
func TestNew(t *testing.T) {
	shot := api.Shot{Index: 5, Term: 3, Conf: of([]int{2, 4}, 1), Data: []byte("five")}
	h := start(t, 2, api.Hard{Term: 6, Vote: 4}, shot, row(5, 3, 6)...)
	h.is("Follower of 0, t6 v4 c5, 5/3: 6/3=a 7/6=b")
	if got := h.c.Shot(); fmt.Sprint(got) != fmt.Sprint(shot) {
		t.Errorf("Shot: %v", got)
	}
	if got := wordConf(h.c.Conf()); got != "2,4|1" {
		t.Errorf("Conf: %s", got)
	}
}

// P12.1: its Conf is that of the log's last EntryConf, else the shot's.
func TestConf(t *testing.T) {
	shot := api.Shot{Index: 5, Term: 3, Conf: three}
	two, four := of([]int{1, 2}), of([]int{1, 2, 3}, 4)
	long := append(row(5, 3), confEntry(7, 3, four), confEntry(8, 3, two))
	long = append(long, row(8, 3, 3, 3)...)
	for _, x := range []struct {
		list []api.Entry
		want api.Conf
	}{
		{nil, three}, {row(5, 3, 3), three}, {[]api.Entry{confEntry(6, 3, two)}, two}, {long[:2], four}, {long, two},
	} {
		h := start(t, 1, api.Hard{Term: 3}, shot, x.list...)
		if got := h.c.Conf(); !slices.Equal(got.Voters, x.want.Voters) || !slices.Equal(got.Learners, x.want.Learners) {
			t.Errorf("Conf of %s: %v", wordEntries(x.list), got)
		}
	}
}

// P12.2: a nil node answers nothing.
func TestNil(t *testing.T) {
	var c *Core
	h := hand{t, c, 1}
	h.advance(99, 1, "")
	for kind := range 11 {
		h.recv(api.Msg{Kind: kind, From: 2, Term: 1}, 99, "")
	}
	h.propose("x", 99, 0, api.ErrArg, "")
	h.propose(strings.Repeat("x", api.MaxFrame), 99, 0, api.ErrArg, "")
	h.change(1, 2, 99, 0, api.ErrArg, "")
	h.give(2, 99, api.ErrArg, "")
	h.read(2, true, 99, api.ErrArg, "")
	h.keep(api.Shot{Conf: three}, api.ErrArg)
	h.keep(api.Shot{}, api.ErrArg)
	hard, role, lead, commit := c.State()
	if hard != (api.Hard{}) || role != 0 || lead != 0 || commit != 0 {
		t.Errorf("State: %v, %d, %d, %d", hard, role, lead, commit)
	}
	if c.Log() != nil || c.Copy() != nil {
		t.Errorf("Log: %v, Copy: %v", c.Log(), c.Copy())
	}
	if got := fmt.Sprint(c.Conf(), c.Shot()); got != "{[] []} {0 0 {[] []} []}" {
		t.Errorf("Conf, Shot: %s", got)
	}
}

// R1: a node that New did not make answers all calls too.
func TestZero(t *testing.T) {
	for _, c := range []*Core{{}, new(Core).Copy()} {
		h := hand{t, c, 0}
		for _, now := range []int64{0, 99, -1, math.MaxInt64, math.MinInt64} {
			h.advance(now, math.MaxUint64, "")
			for kind := range 11 {
				h.recv(api.Msg{Kind: kind, From: 2, Term: 1, Conf: three}, now, "")
			}
			h.propose("x", now, 0, api.ErrLead, "")
			h.change(1, 2, now, 0, api.ErrLead, "")
			h.give(2, now, api.ErrLead, "")
			h.read(2, true, now, api.ErrLead, "")
			h.keep(api.Shot{Conf: three}, api.ErrArg)
			h.keep(api.Shot{}, api.ErrForm)
		}
		if c.Log() != nil {
			t.Errorf("Log: %v", c.Log())
		}
	}
}

// R1: times at their ends.
func TestTimes(t *testing.T) {
	for _, now := range []int64{math.MinInt64, -1, 0, 1 << 60, math.MaxInt64 - 1, math.MaxInt64} {
		for _, draw := range []uint64{0, math.MaxUint64} {
			h := start(t, 1, api.Hard{}, api.Shot{Conf: of([]int{1}, 2)})
			for range 3 {
				h.c.Advance(now, draw)
				h.c.Propose(nil, now)
				h.c.Change(2, 2, now)
				h.c.Read(1, true, now)
				h.c.Give(2, now)
				h.c.Recv(api.Msg{Kind: api.Answer, From: 2, To: 1, Term: 1, Round: 1, OK: true}, now, draw)
			}
		}
	}
}

// P12.1: a clock that is said to go back stands.
func TestNow(t *testing.T) {
	h := fresh(t)
	h.advance(9, 0, "")
	h.advance(-5, 0, "")
	h.advance(math.MinInt64, 0, "")
	h.recv(api.Msg{Kind: api.PreAnswer, From: 2, Term: 0}, 10, "") // it takes the time from each call
	h.advance(3, 0, "PreAsk>2 t1 0/0; PreAsk>3 t1 0/0")
	h.advance(19, 0, "")
	h.advance(20, 0, "PreAsk>2 t1 0/0; PreAsk>3 t1 0/0")
}

// R6: a refused call is not a time either, nor is a message that is none.
func TestRefusedIsNoTime(t *testing.T) {
	h := fresh(t)
	h.propose("x", 99, 0, api.ErrLead, "")
	h.change(1, 4, 99, 0, api.ErrLead, "")
	h.give(2, 99, api.ErrLead, "")
	h.read(2, false, 99, api.ErrLead, "")
	h.recv(api.Msg{Kind: api.Append, From: 1, Term: 9}, 99, "")
	h.recv(api.Msg{Kind: 10, From: 2, Term: 9}, 99, "")
	h.advance(9, 0, "")
	h.is("Follower of 0, t0 v0 c0, 0/0:")
}

// P12.2: nothing of what is handed to New is kept, nor is what is answered shared.
func TestNothingShared(t *testing.T) {
	// Lists with spare room, which is not touched.
	voters := []int{1, 2, 3, 77}
	data := []byte("five!")
	list := append(row(5, 3, 3), confEntry(8, 3, three), api.Entry{Index: 99})
	shot := api.Shot{Index: 5, Term: 3, Conf: api.Conf{Voters: voters[:3]}, Data: data[:4]}
	c, _ := New(1, api.Hard{Term: 3}, shot, list[:3], plain, 0, 0)
	before := c.words()
	for range 2 {
		c.Conf().Voters[0] = 9
		c.Shot().Conf.Voters[0] = 9
		c.Shot().Data[0] = 'x'
		c.Log().Shrink(7)
		out, _ := c.Log().From(6, 9)
		out[0].Data[0] = 'x'
		if got := c.words(); got != before {
			t.Fatalf("it is %s; it was %s", got, before)
		}
		if voters[3] != 77 || data[4] != '!' || list[3].Index != 99 {
			t.Errorf("what was handed in is changed: %v, %s, %v", voters, data, list)
		}
		voters[0], data[0], list[0].Data[0], list[2].Data[1] = 8, 'x', 'x', 9
	}
}

// P12.2: a copy does the same, and goes on by itself.
func TestCopy(t *testing.T) {
	h := leading(t, api.Hard{}, api.Shot{Conf: three})
	h.recv(yes(2, 1, 1, 1), 10, "")
	h.read(5, false, 10, api.OK, "Append>2 t1 1/1 c1 r2; Append>3 t1 0/0 c1 r2 [1/1-]")
	twin := hand{t, h.c.Copy(), 1}
	before := h.c.words()
	twin.propose("x", 10, 2, api.OK, "Append>2 t1 1/1 c1 r2 [2/1=x]")
	twin.read(6, false, 10, api.OK, "Append>2 t1 1/1 c1 r3 [2/1=x]; Append>3 t1 0/0 c1 r3 [1/1- 2/1=x]")
	twin.recv(yes(3, 1, 2, 3), 10, "ready 5@1; ready 6@1")
	if got := h.c.words(); got != before {
		t.Errorf("it is %s; it was %s", got, before)
	}
	h.read(7, false, 10, api.OK, "Append>2 t1 1/1 c1 r3; Append>3 t1 0/0 c1 r3 [1/1-]")
	h.recv(yes(3, 1, 1, 2), 10, "ready 5@1")
}

// P12.2: two copies count by themselves who said yes, and who answered.
func TestCopyCounts(t *testing.T) {
	nine := api.Shot{Conf: of([]int{1, 2, 3, 4, 5, 6, 7, 8, 9})}
	h := start(t, 1, api.Hard{}, nine)
	h.c.Advance(10, 0)
	says := func(h hand, kind int, ids ...int) (n int) {
		for _, id := range ids {
			n = len(h.c.Recv(api.Msg{Kind: kind, From: id, To: 1, Term: 1, Index: 9, OK: kind != api.Answer}, 10, 0).Msgs)
		}
		return n
	}
	says(h, api.PreAnswer, 2, 3)
	twin := hand{t, h.c.Copy(), 1}
	says(h, api.PreAnswer, 4)
	says(twin, api.PreAnswer, 5)
	if n := says(h, api.PreAnswer, 5); n != 8 {
		t.Errorf("with five of nine it asks %d", n)
	}
	if n := says(twin, api.PreAnswer, 4); n != 8 {
		t.Errorf("with five of nine the copy asks %d", n)
	}
	says(h, api.VoteAnswer, 2, 3, 4, 5)
	says(h, api.Answer, 2, 3, 4)
	twin = hand{t, h.c.Copy(), 1}
	says(h, api.Answer, 5)
	says(twin, api.Answer, 6)
	h.c.Advance(20, 0)
	twin.c.Advance(20, 0)
	for _, c := range []*Core{h.c, twin.c} {
		if _, role, _, _ := c.State(); role != Leader {
			t.Errorf("%s", wordCore(c))
		}
	}
	h, twin = start(t, 1, api.Hard{}, nine), hand{}
	h.c.Advance(10, 0)
	says(h, api.PreAnswer, 2, 3, 4, 5)
	says(h, api.VoteAnswer, 2, 3, 4, 5)
	says(h, api.Answer, 2, 3)
	twin = hand{t, h.c.Copy(), 1}
	says(h, api.Answer, 4)
	says(twin, api.Answer, 5)
	says(h, api.Answer, 5)
	h.c.Advance(20, 0)
	twin.c.Advance(20, 0)
	if _, role, _, _ := h.c.State(); role != Leader {
		t.Errorf("with five of nine: %s", wordCore(h.c))
	}
	if _, role, _, _ := twin.c.State(); role != Follower {
		t.Errorf("with four of nine: %s", wordCore(twin.c))
	}
}

// P12.2: two copies have their own rounds, and their own looks.
func TestCopyLooks(t *testing.T) {
	for n := range uint64(6) {
		h := leading(t, api.Hard{}, api.Shot{Conf: three})
		h.recv(yes(2, 1, 1, 1), 10, "")
		for i := range n {
			h.c.Read(i, false, 10)
		}
		twin := hand{t, h.c.Copy(), 1}
		h.c.Read(50, false, 20)
		twin.c.Read(60, false, 25)
		for _, x := range []struct {
			h    hand
			id   uint64
			last int64
		}{{h, 50, 29}, {twin, 60, 34}} {
			out := x.h.c.Recv(api.Msg{Kind: api.Answer, From: 2, To: 1, Term: 1, Round: n + 2}, 20, 0)
			if k := len(out.Ready); k != int(n)+1 || out.Ready[k-1].ID != x.id {
				t.Fatalf("ready: %v", out.Ready)
			}
			x.h.read(1, true, x.last, api.OK, "ready 1@1")
			if out, _ := x.h.c.Read(1, true, x.last+1); len(out.Ready) != 0 {
				t.Errorf("ready: %v", out.Ready)
			}
		}
	}
}
