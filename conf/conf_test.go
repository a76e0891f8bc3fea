package conf

import (
	"math"
	"slices"
	"strconv"
	"strings"
	"testing"

	"scupper/api"
)

// far are numbers that are no node's.
func far() []int {
	list := []int{math.MinInt, math.MinInt + 1, math.MinInt + 2, math.MaxInt - 1, math.MaxInt, -1, 0, 17, 18}
	for shift := 5; shift < 63; shift++ {
		list = append(list, 1<<shift, 1<<shift+1, 1<<shift+2, -1<<shift, -1<<shift+1)
	}
	return list
}

// upTo are the numbers from 1 to n.
func upTo(n int) []int {
	var list []int
	for i := range n {
		list = append(list, i+1)
	}
	return list
}

// of is a configuration of those that vote and those that learn.
func of(voters []int, learners ...int) api.Conf { return api.Conf{Voters: voters, Learners: learners} }

// unsound are configurations that are not sound, each by what is wrong with it.
func unsound() map[string]api.Conf {
	list := map[string]api.Conf{
		"none":                            {},
		"empty lists":                     {Voters: []int{}, Learners: []int{}},
		"nobody votes":                    of(nil, 1, 2),
		"a voter twice":                   of([]int{1, 2, 2}),
		"a learner twice":                 of([]int{1}, 2, 2),
		"voters that fall":                of([]int{2, 1}),
		"voters that fall at last":        of([]int{1, 2, 4, 3}),
		"learners that fall":              of([]int{1}, 3, 2),
		"one that votes and learns":       of([]int{1, 2}, 2),
		"the last one votes and learns":   of([]int{1, 16}, 2, 16),
		"the first one votes and learns":  of([]int{2, 3}, 2, 4),
		"one in the middle votes, learns": of([]int{1, 3, 9}, 2, 3, 4),
		"17 vote":                         of(upTo(17)),
		"too many to vote":                of(make([]int, 1<<16)),
		"too many to learn":               of([]int{1}, slices.Repeat([]int{2}, 1<<16)...),
	}
	for _, id := range far() {
		// Each lies where its list still rises.
		low := id < 1
		rest := []int{1, 2}
		list["a voter "+strconv.Itoa(id)] = of(slices.Concat(when(low, id), rest, when(!low, id)))
		list["a learner "+strconv.Itoa(id)] = of([]int{3}, slices.Concat(when(low, id), rest, when(!low, id))...)
	}
	return list
}

// when is id, if it is to be.
func when(is bool, id int) []int {
	if is {
		return []int{id}
	}
	return nil
}

// text is a configuration as "1 2, 3": those that vote, and, if there are any, those that learn.
func text(c api.Conf) string {
	if len(c.Learners) == 0 {
		return words(c.Voters)
	}
	return words(c.Voters) + ", " + words(c.Learners)
}

func words(list []int) string {
	var out []string
	for _, n := range list {
		out = append(out, strconv.Itoa(n))
	}
	return strings.Join(out, " ")
}

// change is one of the calls that answer a configuration.
type change func(api.Conf, int) (api.Conf, api.Errno)

func changes() map[string]change {
	return map[string]change{"Learn": Learn, "Vote": Vote, "Leave": Leave}
}

// answers holds a change against what it must answer: a configuration as text, if e is OK, else none.
func answers(t *testing.T, name string, c api.Conf, id int, want string, e api.Errno) {
	t.Helper()
	next, got := changes()[name](c, id)
	if text(next) != want || got != e {
		t.Errorf("%s of %d in %q: %q, %d; want %q, %d", name, id, text(c), text(next), got, want, e)
	}
	if e != api.OK && (next.Voters != nil || next.Learners != nil) {
		t.Errorf("%s of %d in %q: %v beside an error", name, id, text(c), next)
	}
}

// The chapter's examples.
func TestExample(t *testing.T) {
	c := of([]int{1, 2, 3})
	if Quorum(c, 1, 1, 9) || !Quorum(c, 1, 3) {
		t.Errorf("Quorum of 1, 1, 9: %t; of 1, 3: %t", Quorum(c, 1, 1, 9), Quorum(c, 1, 3))
	}
	if n, e := Reached(c, 5, 9, 7); n != 7 || e != api.OK {
		t.Errorf("Reached of 5, 9, 7: %d, %d", n, e)
	}
	answers(t, "Vote", c, 2, "", api.ErrNone)
	answers(t, "Leave", c, 2, "1 3", api.OK)
}

// P10.1: what is sound, and what is not.
func TestCheck(t *testing.T) {
	for _, c := range []api.Conf{
		of([]int{1}),
		of([]int{16}),
		of([]int{7}, 1),
		of([]int{7}, 16),
		of([]int{1, 16}, 2, 15),
		of(upTo(15), 16),
		of(upTo(16)),
		of([]int{1}, upTo(16)[1:]...),
		{Voters: []int{3}, Learners: []int{}},
	} {
		if e := Check(c); e != api.OK {
			t.Errorf("Check of %q: %d", text(c), e)
		}
	}
	for what, c := range unsound() {
		if e := Check(c); e != api.ErrForm {
			t.Errorf("Check of %s: %d", what, e)
		}
	}
}

// P10.1: of what is not sound nobody is a member, or votes, and nobody is a quorum.
func TestUnsoundIsFalse(t *testing.T) {
	for what, c := range unsound() {
		ids := slices.Concat(far(), upTo(16), c.Voters, c.Learners)
		if Quorum(c, ids...) || Quorum(c) {
			t.Errorf("%s: a Quorum", what)
		}
		for _, id := range slices.Compact(ids) {
			if Member(c, id) || Voter(c, id) {
				t.Errorf("%s, %d: Member %t, Voter %t", what, id, Member(c, id), Voter(c, id))
			}
		}
	}
}

// P10.2, P10.3: what is not sound has ErrForm ahead of all other errors.
func TestUnsoundIsRefused(t *testing.T) {
	for what, c := range unsound() {
		for name, f := range changes() {
			for _, id := range slices.Concat(far(), upTo(16)) {
				if next, e := f(c, id); next.Voters != nil || next.Learners != nil || e != api.ErrForm {
					t.Errorf("%s, %s of %d: %v, %d", what, name, id, next, e)
				}
			}
		}
		for _, n := range []int{0, 1, 2, len(c.Voters), len(c.Voters) + 1} {
			if got, e := Reached(c, slices.Repeat([]uint64{5}, n)...); got != 0 || e != api.ErrForm {
				t.Errorf("%s: Reached of %d places: %d, %d", what, n, got, e)
			}
		}
	}
}

// P10.1: who is a member, and who votes.
func TestMember(t *testing.T) {
	c := of([]int{1, 5, 16}, 2, 15)
	for id := -20; id <= 40; id++ {
		votes := id == 1 || id == 5 || id == 16
		learns := id == 2 || id == 15
		if Voter(c, id) != votes || Member(c, id) != (votes || learns) {
			t.Errorf("%d: Voter %t, Member %t", id, Voter(c, id), Member(c, id))
		}
	}
	for _, id := range far() {
		if Voter(c, id) || Member(c, id) {
			t.Errorf("%d: Voter %t, Member %t", id, Voter(c, id), Member(c, id))
		}
	}
}

// P10.1: more than half of those who vote, each counted once, and nobody else.
func TestQuorum(t *testing.T) {
	for _, x := range []struct {
		c   api.Conf
		ids []int
		is  bool
	}{
		{of([]int{4}), nil, false},
		{of([]int{4}), []int{}, false},
		{of([]int{4}), []int{3}, false},
		{of([]int{4}), []int{4}, true},
		{of([]int{4}), []int{3, 4}, true},
		{of([]int{4}, 1, 2, 3), []int{1, 2, 3}, false},
		{of([]int{4}, 1, 2, 3), []int{4}, true}, // those who learn do not make a quorum greater
		{of([]int{1, 2}), []int{1}, false},      // half is not more than half
		{of([]int{1, 2}), []int{2, 2, 2}, false},
		{of([]int{1, 2}), []int{2, 1}, true},
		{of([]int{1, 2, 3}), []int{3}, false},
		{of([]int{1, 2, 3}), []int{3, 3}, false},
		{of([]int{1, 2, 3}), []int{3, 2}, true},
		{of([]int{1, 2, 3}), []int{3, 9, 2, 3}, true},
		{of([]int{1, 2, 3}, 4, 5), []int{3, 4, 5}, false},
		{of([]int{1, 2, 3, 4}), []int{4, 1}, false},
		{of([]int{1, 2, 3, 4}), []int{4, 1, 4, 1, 1}, false},
		{of([]int{1, 2, 3, 4}), []int{4, 1, 2}, true},
		{of([]int{1, 2, 3, 4}), []int{4, 1, 2, 3}, true},
		{of([]int{1, 2, 3}), far(), false},
		{of([]int{1, 2, 3}), append(far(), 2, 2), false},
		{of([]int{1, 2, 3}), append(append([]int{1}, far()...), 3), true},
		{of(upTo(16)), upTo(8), false},
		{of(upTo(16)), upTo(9), true},
		{of(upTo(15)), upTo(7), false},
		{of(upTo(15)), upTo(8), true},
	} {
		if Quorum(x.c, x.ids...) != x.is {
			t.Errorf("Quorum of %q in %q: %t", words(x.ids), text(x.c), !x.is)
		}
	}
}

// P10.1, R8: ids may be many.
func TestQuorumOfMany(t *testing.T) {
	ids := slices.Repeat([]int{3, 9, 17, -1}, 1<<18)
	if c := of([]int{1, 2, 3}); Quorum(c, ids...) || !Quorum(c, append(ids, 1)...) {
		t.Errorf("many ids are counted wrong")
	}
}

// P10.2: a number that is no node's is ErrArg, ahead of what the configuration tells of it.
func TestNoNode(t *testing.T) {
	for _, c := range []api.Conf{of([]int{1}), of([]int{1, 2}, 3), of(upTo(16)), of([]int{16}, upTo(15)...)} {
		for name := range changes() {
			for _, id := range far() {
				answers(t, name, c, id, "", api.ErrArg)
			}
		}
	}
}

// P10.2: Learn by hand: at each place of the list, and of all that are members.
func TestLearn(t *testing.T) {
	answers(t, "Learn", of([]int{5}), 1, "5, 1", api.OK)
	answers(t, "Learn", of([]int{5}), 16, "5, 16", api.OK)
	answers(t, "Learn", api.Conf{Voters: []int{5}, Learners: []int{}}, 6, "5, 6", api.OK)
	answers(t, "Learn", of([]int{5}, 3, 7), 1, "5, 1 3 7", api.OK)
	answers(t, "Learn", of([]int{5}, 3, 7), 4, "5, 3 4 7", api.OK)
	answers(t, "Learn", of([]int{5}, 3, 7), 16, "5, 3 7 16", api.OK)
	answers(t, "Learn", of([]int{2, 5}, 3, 7), 4, "2 5, 3 4 7", api.OK)
	answers(t, "Learn", of(upTo(15)), 16, words(upTo(15))+", 16", api.OK)
	for _, id := range []int{2, 3, 5, 7} {
		answers(t, "Learn", of([]int{2, 5}, 3, 7), id, "", api.ErrThere)
	}
	for _, id := range upTo(16) {
		answers(t, "Learn", of(upTo(16)), id, "", api.ErrThere)
	}
}

// P10.2: Vote by hand: who learns votes, and learns no more.
func TestVote(t *testing.T) {
	answers(t, "Vote", of([]int{5}, 1), 1, "1 5", api.OK)
	answers(t, "Vote", of([]int{5}, 16), 16, "5 16", api.OK)
	answers(t, "Vote", of([]int{2, 5}, 1, 3, 7), 1, "1 2 5, 3 7", api.OK)
	answers(t, "Vote", of([]int{2, 5}, 1, 3, 7), 3, "2 3 5, 1 7", api.OK)
	answers(t, "Vote", of([]int{2, 5}, 1, 3, 7), 7, "2 5 7, 1 3", api.OK)
	answers(t, "Vote", of(upTo(15), 16), 16, words(upTo(16)), api.OK)
	for _, id := range []int{2, 5, 4, 16} {
		answers(t, "Vote", of([]int{2, 5}, 1, 3, 7), id, "", api.ErrNone)
	}
	for _, id := range upTo(16) {
		answers(t, "Vote", of(upTo(16)), id, "", api.ErrNone)
	}
}

// P10.2: Leave by hand: who votes or learns does neither any more, but somebody always votes.
func TestLeave(t *testing.T) {
	answers(t, "Leave", of([]int{2, 5}), 2, "5", api.OK)
	answers(t, "Leave", of([]int{2, 5}), 5, "2", api.OK)
	answers(t, "Leave", of([]int{2, 5}, 1, 3, 7), 1, "2 5, 3 7", api.OK)
	answers(t, "Leave", of([]int{2, 5}, 1, 3, 7), 3, "2 5, 1 7", api.OK)
	answers(t, "Leave", of([]int{2, 5}, 1, 3, 7), 7, "2 5, 1 3", api.OK)
	answers(t, "Leave", of([]int{2, 5}, 1, 3, 7), 5, "2, 1 3 7", api.OK)
	answers(t, "Leave", of([]int{5}, 7), 7, "5", api.OK)
	answers(t, "Leave", of(upTo(16)), 16, words(upTo(15)), api.OK)
	for _, id := range []int{4, 6, 16} {
		answers(t, "Leave", of([]int{2, 5}, 1, 3, 7), id, "", api.ErrNone)
	}
	for _, id := range upTo(16) {
		answers(t, "Leave", of([]int{id}), id, "", api.ErrBusy)
		answers(t, "Leave", of([]int{id}), id%16+1, "", api.ErrNone)
		others := without(upTo(16), id)
		answers(t, "Leave", of([]int{id}, others...), id, "", api.ErrBusy)
		answers(t, "Leave", of([]int{id}, others...), others[0], words([]int{id})+", "+words(others[1:]), api.OK)
	}
}

// P10.3: Reached by hand: of one to five that vote, at the ends of what places may be.
func TestReached(t *testing.T) {
	const top = math.MaxUint64
	for _, x := range []struct {
		places []uint64
		n      uint64
	}{
		{[]uint64{0}, 0},
		{[]uint64{9}, 9},
		{[]uint64{top}, top},
		{[]uint64{5, 9}, 5},
		{[]uint64{9, 5}, 5},
		{[]uint64{top, 0}, 0},
		{[]uint64{top, 1}, 1},
		{[]uint64{0, 0, 0}, 0},
		{[]uint64{7, 0, 0}, 0},
		{[]uint64{7, 0, 7}, 7},
		{[]uint64{9, 7, 5}, 7},
		{[]uint64{top, top - 1, top}, top},
		{[]uint64{top, 1 << 63, 1<<63 - 1}, 1 << 63},
		{[]uint64{1 << 32, 1, 1<<32 + 1}, 1 << 32},
		{[]uint64{1, 2, 3, 4}, 2},
		{[]uint64{4, 4, 1, 1}, 1},
		{[]uint64{4, 4, 1, 4}, 4},
		{[]uint64{1, 2, 3, 4, 5}, 3},
		{[]uint64{5, 1, 5, 2, 1}, 2},
		{[]uint64{0, 0, 1, 1, 1}, 1},
	} {
		c := of(upTo(len(x.places)), 14, 15, 16) // those who learn reach nothing
		if n, e := Reached(c, x.places...); n != x.n || e != api.OK {
			t.Errorf("Reached of %v: %d, %d; want %d", x.places, n, e, x.n)
		}
	}
}

// P10.3: there are as many places as voters, else it is ErrArg.
func TestReachedOfOtherLengths(t *testing.T) {
	for voters := 1; voters <= 16; voters++ {
		c := of(upTo(voters), upTo(16)[voters:]...)
		for n := range 40 {
			want, e := uint64(0), api.ErrArg
			if n == voters {
				want, e = 6, api.OK
			}
			if got, gotE := Reached(c, slices.Repeat([]uint64{6}, n)...); got != want || gotE != e {
				t.Errorf("%d that vote, %d places: %d, %d; want %d, %d", voters, n, got, gotE, want, e)
			}
		}
	}
	if n, e := Reached(of([]int{1}), make([]uint64, 1<<16)...); n != 0 || e != api.ErrArg {
		t.Errorf("many places: %d, %d", n, e)
	}
}

// spare answers part of a list that has room to spare on both sides, and the whole of it.
func spare(list []int) (part, whole []int) {
	whole = slices.Concat([]int{-5, -6}, list, []int{-7, -8, -9})
	return whole[2 : 2+len(list)], whole
}

// spoil changes all of a list, its spare room too.
func spoil(list []int) {
	list = list[:cap(list)]
	for i := range list {
		list[i] += 1000
	}
}

// R4: what is handed in is not changed, spare room included, and shares nothing with what is answered; nor do answers, nor the lists of one answer.
func TestNothingIsShared(t *testing.T) {
	for _, x := range []struct {
		name string
		id   int
		want string
	}{
		{"Learn", 1, "2 5, 1 3 7"}, {"Learn", 8, "2 5, 3 7 8"},
		{"Vote", 3, "2 3 5, 7"}, {"Vote", 7, "2 5 7, 3"},
		{"Leave", 2, "5, 3 7"}, {"Leave", 5, "2, 3 7"}, {"Leave", 3, "2 5, 7"}, {"Leave", 7, "2 5, 3"},
	} {
		var c api.Conf
		var voters, learners []int
		c.Voters, voters = spare([]int{2, 5})
		c.Learners, learners = spare([]int{3, 7})
		one, _ := changes()[x.name](c, x.id)
		two, _ := changes()[x.name](c, x.id)
		spoil(two.Voters)
		if text(one) != x.want || words(two.Learners) != words(one.Learners) {
			t.Errorf("%s of %d: %q, and %q behind a change of who votes", x.name, x.id, text(one), text(two))
		}
		spoil(two.Learners)
		if words(voters) != "-5 -6 2 5 -7 -8 -9" || words(learners) != "-5 -6 3 7 -7 -8 -9" {
			t.Errorf("%s of %d changed what it was handed: %v, %v", x.name, x.id, voters, learners)
		}
		spoil(voters)
		spoil(learners)
		if text(one) != x.want {
			t.Errorf("%s of %d: %q; want %q", x.name, x.id, text(one), x.want)
		}
	}
}

// R4: ids and places stay as they are, in their order too.
func TestArgumentsStay(t *testing.T) {
	c := of([]int{1, 2, 3}, 4)
	ids, all := spare([]int{3, 1, 3, 9})
	Quorum(c, ids...)
	if words(all) != "-5 -6 3 1 3 9 -7 -8 -9" {
		t.Errorf("ids: %v", all)
	}
	places := []uint64{9, 7, 8, 1, 2}
	Reached(c, places[:3]...)
	if !slices.Equal(places, []uint64{9, 7, 8, 1, 2}) {
		t.Errorf("places: %v", places)
	}
	if text(c) != "1 2 3, 4" {
		t.Errorf("the configuration: %q", text(c))
	}
}
