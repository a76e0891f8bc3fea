package conf

import (
	"math/bits"
	"math/rand"
	"slices"
	"strconv"
	"testing"

	"scupper/api"
)

// set is a set of nodes: node k is bit k.
type set uint32

func setOf(list []int) set {
	var s set
	for _, id := range list {
		s |= 1 << id
	}
	return s
}

func (s set) has(id int) bool { return id >= 0 && id < 32 && s>>id&1 == 1 }

func (s set) size() int { return bits.OnesCount32(uint32(s)) }

func (s set) list() []int {
	var list []int
	for id := range 32 {
		if s.has(id) {
			list = append(list, id)
		}
	}
	return list
}

// model is a configuration as two sets.
type model struct{ votes, learns set }

func (m model) conf() api.Conf { return api.Conf{Voters: m.votes.list(), Learners: m.learns.list()} }

func (m model) sound() bool { return m.votes != 0 && m.votes&m.learns == 0 }

// after is what a change makes of it.
func (m model) after(name string, id int) (model, api.Errno) {
	bit := set(1) << (id & 31)
	member := (m.votes | m.learns).has(id)
	switch {
	case !m.sound():
		return model{}, api.ErrForm
	case id < 1 || id > 16:
		return model{}, api.ErrArg
	case name == "Learn" && member:
		return model{}, api.ErrThere
	case name == "Learn":
		return model{m.votes, m.learns | bit}, api.OK
	case name == "Vote" && !m.learns.has(id):
		return model{}, api.ErrNone
	case name == "Vote":
		return model{m.votes | bit, m.learns &^ bit}, api.OK
	case !member:
		return model{}, api.ErrNone
	case m.votes == bit:
		return model{}, api.ErrBusy
	}
	return model{m.votes &^ bit, m.learns &^ bit}, api.OK
}

// all goes through all that there may be of these nodes, and of each other one neither.
func all(nodes []int, f func(m model)) {
	whole := setOf(nodes)
	for votes := whole; ; votes = (votes - 1) & whole {
		for learns := whole; ; learns = (learns - 1) & whole {
			f(model{votes, learns})
			if learns == 0 {
				break
			}
		}
		if votes == 0 {
			break
		}
	}
}

// holds holds each call against the model, for one configuration and one number.
func (m model) holds(t *testing.T, id int) {
	t.Helper()
	c := m.conf()
	votes, member := m.sound() && m.votes.has(id), m.sound() && (m.votes|m.learns).has(id)
	if Voter(c, id) != votes || Member(c, id) != member {
		t.Errorf("%d in %q: Voter %t, Member %t", id, text(c), Voter(c, id), Member(c, id))
	}
	for name := range changes() {
		next, e := m.after(name, id)
		answers(t, name, c, id, text(next.conf()), e)
		// What comes of a sound one is sound.
		if got, _ := changes()[name](c, id); e == api.OK && Check(got) != api.OK {
			t.Errorf("%s of %d in %q is not sound: %q", name, id, text(c), text(got))
		}
	}
}

// P10.1, P10.2: all configurations of five nodes, sound or not, and all numbers near those of nodes.
func TestAllOfFew(t *testing.T) {
	all([]int{1, 2, 8, 15, 16}, func(m model) {
		want := api.OK
		if !m.sound() {
			want = api.ErrForm
		}
		if e := Check(m.conf()); e != want {
			t.Errorf("Check of %q: %d; want %d", text(m.conf()), e, want)
		}
		for id := -2; id <= 20; id++ {
			m.holds(t, id)
		}
	})
}

// P10.2: any changes, one behind the other, of all nodes.
func TestManyChanges(t *testing.T) {
	names := []string{"Learn", "Learn", "Vote", "Vote", "Leave"}
	for seed := range int64(50) {
		r := rand.New(rand.NewSource(seed))
		m := model{votes: 1 << (1 + r.Intn(16))}
		c := m.conf()
		for range 200 {
			name, id := names[r.Intn(len(names))], r.Intn(18)
			next, want := m.after(name, id)
			got, e := changes()[name](c, id)
			if text(got) != text(next.conf()) || e != want {
				t.Fatalf("seed %d, %s of %d in %q: %q, %d; want %q, %d", seed, name, id, text(c), text(got), e, text(next.conf()), want)
			}
			if e == api.OK {
				m, c = next, got
			}
		}
	}
}

// drawn is a sound configuration of any nodes.
func drawn(r *rand.Rand) model {
	for {
		votes, learns := set(r.Uint32())&(1<<17-2), set(r.Uint32())&(1<<17-2)
		if m := (model{votes, learns &^ votes}); m.sound() {
			return m
		}
	}
}

// P10.1: any ids, of any sound configuration, in any order and number.
func TestAnyQuorum(t *testing.T) {
	var seen [2]int
	for seed := range int64(3000) {
		r := rand.New(rand.NewSource(seed))
		m := drawn(r)
		var ids []int
		for range r.Intn(30) {
			ids = append(ids, r.Intn(20)-1)
		}
		in := set(0)
		for _, id := range ids {
			in |= 1 << (id & 31)
		}
		is := 2*(in&m.votes).size() > m.votes.size()
		if Quorum(m.conf(), ids...) != is {
			t.Fatalf("Quorum of %q in %q: %t", words(ids), text(m.conf()), !is)
		}
		if is {
			seen[1]++
		} else {
			seen[0]++
		}
	}
	if min(seen[0], seen[1]) < 500 {
		t.Errorf("no quorum %d times, a quorum %d times", seen[0], seen[1])
	}
}

// reach is how many places reach n.
func reach(places []uint64, n uint64) int {
	count := 0
	for _, p := range places {
		if p >= n {
			count++
		}
	}
	return count
}

// P10.3: more than half reach the answer, and no number above it; in whatever order the places come.
func TestAnyReached(t *testing.T) {
	for seed := range int64(3000) {
		r := rand.New(rand.NewSource(seed))
		m := drawn(r)
		places := make([]uint64, m.votes.size())
		for i := range places {
			places[i] = r.Uint64() >> r.Intn(64)
		}
		n, e := Reached(m.conf(), places...)
		if e != api.OK || 2*reach(places, n) <= len(places) || n+1 > 0 && 2*reach(places, n+1) > len(places) {
			t.Fatalf("Reached of %v: %d, %d", places, n, e)
		}
		slices.Sort(places)
		if again, _ := Reached(m.conf(), places...); again != n {
			t.Fatalf("Reached of %v: %d, in another order %d", places, n, again)
		}
	}
}

// quorums are all quorums of those who vote in c, among nodes 1 to 6.
func quorums(c api.Conf) []set {
	var list []set
	for s := set(0); s < 1<<7; s += 2 {
		if Quorum(c, s.list()...) {
			list = append(list, s)
		}
	}
	return list
}

// What follows: any two quorums of one configuration, and of one and the next one, have somebody in common.
func TestQuorumsMeet(t *testing.T) {
	for voters := 1; voters <= 5; voters++ {
		c := of(upTo(voters), 6)
		list := quorums(c)
		if len(list) == 0 {
			t.Errorf("%q has no quorum", text(c))
		}
		next := map[string]api.Conf{"itself": c}
		for name, f := range changes() {
			for _, id := range upTo(6) {
				if n, e := f(c, id); e == api.OK {
					next[name+" "+strconv.Itoa(id)] = n
				}
			}
		}
		for how, n := range next {
			others := quorums(n)
			for _, a := range list {
				for _, b := range others {
					if a&b == 0 {
						t.Errorf("%q, %s: %q and %q have nobody in common", text(c), how, words(a.list()), words(b.list()))
					}
				}
			}
		}
	}
}
