package post

import (
	"bytes"
	"maps"
	"math/rand"
	"slices"
	"strconv"
	"strings"
	"testing"

	"scupper/api"
)

// model is a post as the chapter tells it: letters as text, and of the ways how each is told.
type model struct {
	list []string
	lost map[string]bool
	room int
}

func wayText(from, to int) string { return strconv.Itoa(from) + ">" + strconv.Itoa(to) + ":" }

// wayError is ErrArg, where there is no such way.
func wayError(from, to int) api.Errno {
	if !isGood(from) || !isGood(to) || from == to {
		return api.ErrArg
	}
	return api.OK
}

func (m *model) add(text string) api.Errno {
	if len(m.list) >= m.room {
		return api.ErrFull
	}
	m.list = append(slices.Clone(m.list), text)
	return api.OK
}

func (m *model) send(from, to int, data []byte) api.Errno {
	if e := wayError(from, to); e != api.OK {
		return e
	}
	if len(data) > api.MaxFrame {
		return api.ErrLarge
	}
	if m.lost[wayText(from, to)] {
		return api.ErrDown
	}
	return m.add(wayText(from, to) + string(data))
}

func (m *model) mark(from, to int, lost bool) api.Errno {
	if e := wayError(from, to); e != api.OK {
		return e
	}
	m.lost = maps.Clone(m.lost)
	m.lost[wayText(from, to)] = lost
	return api.OK
}

func (m *model) look(i int) (string, api.Errno) {
	if i < 0 || i >= len(m.list) {
		return "0>0:", api.ErrNone
	}
	return m.list[i], api.OK
}

func (m *model) take(i int) (string, api.Errno) {
	text, e := m.look(i)
	if e == api.OK {
		m.list = slices.Concat(m.list[:i], m.list[i+1:])
	}
	return text, e
}

func (m *model) twin(i int) api.Errno {
	text, e := m.look(i)
	if e != api.OK {
		return e
	}
	return m.add(text)
}

// pair is a post and its model.
type pair struct {
	p *Post
	m *model
}

// copied is the same again, with nothing in common; a model's parts are never changed in place.
func (x pair) copied() pair {
	m := *x.m
	return pair{x.p.Copy(), &m}
}

func anyEnd(r *rand.Rand) int {
	return []int{1, 2, 3, 1, 2, 3, 1, 2, 3, -1, -2, 16, -16, 0, 17, -17, 1 << 40}[r.Intn(17)]
}

func anyData(r *rand.Rand) []byte {
	n := r.Intn(7)
	// Seldom, as each step looks at all that is on the way.
	if r.Intn(40) == 0 {
		n = api.MaxFrame + r.Intn(2)
	}
	b := make([]byte, n)
	r.Read(b)
	return b
}

// answer is a letter and an error, as text.
func answer(text string, e api.Errno) string { return text + " " + strconv.Itoa(int(e)) }

// step does a step to both, and answers what they answer.
func (x pair) step(r *rand.Rand) (what, got, text string) {
	from, to, i, data := anyEnd(r), anyEnd(r), r.Intn(len(x.m.list)+3)-1, anyData(r)
	where := " " + wayText(from, to) + " " + strconv.Itoa(i) + " " + strconv.Itoa(len(data))
	switch k := r.Intn(40); {
	case k < 16:
		return "Send" + where, answer("", x.p.Send(from, to, data)), answer("", x.m.send(from, to, data))
	case k < 22:
		from, to, data, e := x.p.Look(i)
		return "Look" + where, answer(told(from, to, data), e), answer(x.m.look(i))
	case k < 28:
		from, to, data, e := x.p.Take(i)
		return "Take" + where, answer(told(from, to, data), e), answer(x.m.take(i))
	case k < 33:
		return "Twin" + where, answer("", x.p.Twin(i)), answer("", x.m.twin(i))
	case k < 36:
		return "Cut" + where, answer("", x.p.Cut(from, to)), answer("", x.m.mark(from, to, true))
	}
	return "Heal" + where, answer("", x.p.Heal(from, to)), answer("", x.m.mark(from, to, false))
}

// same holds all that is on the way against the model.
func (x pair) same(t *testing.T, what string) {
	t.Helper()
	if x.p.Len() != len(x.m.list) {
		t.Fatalf("%s: Len %d; want %d", what, x.p.Len(), len(x.m.list))
	}
	has(t, what, x.p, strings.Join(x.m.list, " "))
}

// P8.1, P8.2: any calls in any order, some of them to copies, while what was copied stays as it is.
func TestAgainstModel(t *testing.T) {
	var seen [api.ErrOrder + 1]int
	for seed := range int64(200) {
		r := rand.New(rand.NewSource(seed))
		room := r.Intn(12)
		x := pair{with(t, room), &model{room: room, lost: map[string]bool{}}}
		left := x.copied()
		for i := range 300 {
			if r.Intn(20) == 0 {
				left.same(t, "what was copied")
				left, x = x, x.copied()
			}
			what, got, text := x.step(r)
			what = "seed " + strconv.FormatInt(seed, 10) + ", step " + strconv.Itoa(i) + ": " + what
			if got != text {
				t.Fatalf("%s: %q; want %q", what, got, text)
			}
			x.same(t, what)
			e, _ := strconv.Atoi(text[strings.LastIndexByte(text, ' ')+1:])
			seen[e]++
		}
	}
	for _, e := range []api.Errno{api.OK, api.ErrArg, api.ErrLarge, api.ErrDown, api.ErrFull, api.ErrNone} {
		if seen[e] < 20 {
			t.Errorf("the error %d came %d times alone", e, seen[e])
		}
	}
}

// R5: the same calls, done again from the beginning, have the same answers.
func TestAgain(t *testing.T) {
	run := func() []byte {
		r := rand.New(rand.NewSource(5))
		x := pair{with(t, 9), &model{room: 9, lost: map[string]bool{}}}
		var out []byte
		for range 300 {
			_, got, _ := x.step(r)
			out = append(out, got...)
		}
		return out
	}
	if !bytes.Equal(run(), run()) {
		t.Error("not the same again")
	}
}
