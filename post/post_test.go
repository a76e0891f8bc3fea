package post

import (
	"bytes"
	"math"
	"strconv"
	"strings"
	"testing"

	"scupper/api"
)

// with is an empty post with so much room.
func with(t *testing.T, room int) *Post {
	t.Helper()
	p, e := New(room)
	if p == nil || e != api.OK {
		t.Fatalf("New(%d): %v, %d", room, p, e)
	}
	return p
}

// want holds an error against the one that must be.
func want(t *testing.T, what string, got, e api.Errno) {
	t.Helper()
	if got != e {
		t.Errorf("%s: %d; want %d", what, got, e)
	}
}

// do does what must go well.
func do(t *testing.T, list ...api.Errno) {
	t.Helper()
	for i, e := range list {
		if e != api.OK {
			t.Fatalf("step %d: %d; want OK", i, e)
		}
	}
}

// told is a letter as text, as "1>-2:data".
func told(from, to int, data []byte) string {
	return strconv.Itoa(from) + ">" + strconv.Itoa(to) + ":" + string(data)
}

// has holds what is on the way against text: letters one behind the other, as "1>-2:data 2>1:".
func has(t *testing.T, what string, p *Post, text string) {
	t.Helper()
	var list []string
	for i := range p.Len() {
		from, to, data, e := p.Look(i)
		want(t, what+": Look("+strconv.Itoa(i)+")", e, api.OK)
		list = append(list, told(from, to, data))
	}
	if got := strings.Join(list, " "); got != text {
		t.Errorf("%s: %q; want %q", what, got, text)
	}
}

// takes takes the i-th letter, and holds it against text.
func takes(t *testing.T, p *Post, i int, text string) {
	t.Helper()
	from, to, data, e := p.Take(i)
	if got := told(from, to, data); got != text || e != api.OK {
		t.Errorf("Take(%d): %q, %d; want %q", i, got, e, text)
	}
}

// none holds it that there is no i-th letter, and that nothing is answered beside the error.
func none(t *testing.T, p *Post, i int, e api.Errno) {
	t.Helper()
	for what, call := range map[string]func(i int) (int, int, []byte, api.Errno){"Look": p.Look, "Take": p.Take} {
		if from, to, data, got := call(i); from != 0 || to != 0 || data != nil || got != e {
			t.Errorf("%s(%d): %d, %d, %x, %d; want %d", what, i, from, to, data, got, e)
		}
	}
	want(t, "Twin("+strconv.Itoa(i)+")", p.Twin(i), e)
}

// three is a post with so much room, and three letters on the way.
func three(t *testing.T, room int) *Post {
	t.Helper()
	p := with(t, room)
	do(t, p.Send(1, 2, []byte("a")), p.Send(-1, 1, []byte("b")), p.Send(2, 1, []byte("c")))
	return p
}

const threeText = "1>2:a -1>1:b 2>1:c"

// The chapter's example.
func TestExample(t *testing.T) {
	p := with(t, 1)
	want(t, "Send(1, 2)", p.Send(1, 2, []byte("a")), api.OK)
	want(t, "Send(2, 1)", p.Send(2, 1, []byte("b")), api.ErrFull)
	has(t, "one", p, "1>2:a")
	want(t, "Cut(1, 2)", p.Cut(1, 2), api.OK)
	want(t, "Send(1, 2)", p.Send(1, 2, []byte("a")), api.ErrDown)
	has(t, "one", p, "1>2:a")
}

// P8.1: which room there may be, and that there is just so much.
func TestRoom(t *testing.T) {
	for _, n := range []int{0, 1, 2, 400, api.MaxPost - 1, api.MaxPost} {
		p := with(t, n)
		has(t, "New", p, "")
		for range n {
			do(t, p.Send(1, 2, nil))
		}
		for range 3 {
			want(t, "more than "+strconv.Itoa(n), p.Send(1, 2, nil), api.ErrFull)
		}
		if p.Len() != n {
			t.Errorf("room %d: %d on the way", n, p.Len())
		}
		if n > 0 {
			want(t, "Twin", p.Twin(0), api.ErrFull)
			takes(t, p, n/2, "1>2:")
			do(t, p.Send(1, 3, nil))
			want(t, "full again", p.Send(1, 2, nil), api.ErrFull)
			takes(t, p, n-1, "1>3:")
			do(t, p.Send(1, 3, nil))
		}
		none(t, p, n, api.ErrNone)
	}
	for _, n := range []int{-1, math.MinInt, api.MaxPost + 1, math.MaxInt} {
		if p, e := New(n); p != nil || e != api.ErrArg {
			t.Errorf("New(%d): %v, %d", n, p, e)
		}
	}
}

// isGood tells of the ends as the chapter does.
func isGood(n int) bool { return n >= 1 && n <= 16 || n >= -16 && n <= -1 }

// P8.1, P8.2: between which ends something may go, be cut, and be healed.
func TestEnds(t *testing.T) {
	list := []int{math.MinInt, math.MinInt + 1, -1 << 32, math.MaxInt - 1, math.MaxInt, 1 << 32, 1<<32 + 1}
	for n := -20; n <= 20; n++ {
		list = append(list, n)
	}
	for _, from := range list {
		for _, to := range list {
			e, text := api.ErrArg, ""
			if isGood(from) && isGood(to) && from != to {
				e, text = api.OK, told(from, to, []byte("x"))
			}
			what := strconv.Itoa(from) + " to " + strconv.Itoa(to)
			p := with(t, 3)
			want(t, "Send "+what, p.Send(from, to, []byte("x")), e)
			has(t, what, p, text)
			want(t, "Heal "+what, p.Heal(from, to), e)
			want(t, "Cut "+what, p.Cut(from, to), e)
			has(t, what+", cut", p, text)
			if e == api.OK {
				want(t, "Send "+what+", cut", p.Send(from, to, []byte("y")), api.ErrDown)
				want(t, "Send back", p.Send(to, from, []byte("y")), api.OK)
				takes(t, p, 1, told(to, from, []byte("y")))
			}
			want(t, "Heal "+what, p.Heal(from, to), e)
			want(t, "Send "+what+", healed", p.Send(from, to, nil), e)
		}
	}
}

// P8.1: how much data a letter may have, and that any bytes come as they were.
func TestData(t *testing.T) {
	all := make([]byte, 256)
	for i := range all {
		all[i] = byte(i)
	}
	for _, n := range []int{0, 1, 255, 256, 1000, api.MaxFrame - 1, api.MaxFrame} {
		data := bytes.Repeat(all, n/256+1)[:n]
		p := with(t, 2)
		do(t, p.Send(3, -4, data), p.Twin(0))
		has(t, strconv.Itoa(n), p, told(3, -4, data)+" "+told(3, -4, data))
		takes(t, p, 1, told(3, -4, data))
		takes(t, p, 0, told(3, -4, data))
	}
	for _, n := range []int{api.MaxFrame + 1, api.MaxFrame + 2, 1 << 20} {
		p := with(t, 2)
		want(t, "too much", p.Send(3, -4, make([]byte, n)), api.ErrLarge)
		has(t, "too much", p, "")
	}
}

// P8.1: of several errors of Send the one that is named first is answered.
func TestWhichError(t *testing.T) {
	large := make([]byte, api.MaxFrame+1)
	p := with(t, 0)
	do(t, p.Cut(1, 2))
	want(t, "no end, too much", p.Send(0, 2, large), api.ErrArg)
	want(t, "no end", p.Send(1, 17, nil), api.ErrArg)
	want(t, "both one, too much", p.Send(1, 1, large), api.ErrArg)
	want(t, "too much, cut", p.Send(1, 2, large), api.ErrLarge)
	want(t, "too much, full", p.Send(2, 1, large), api.ErrLarge)
	want(t, "cut, full", p.Send(1, 2, nil), api.ErrDown)
	want(t, "full", p.Send(2, 1, nil), api.ErrFull)
	none(t, p, 0, api.ErrNone)
	has(t, "refused", p, "")
}

// P8.1: what is sent is the last; what is taken is on the way no more, and the others keep their order.
func TestOrder(t *testing.T) {
	for i, rest := range []string{"-1>1:b 2>1:c", "1>2:a 2>1:c", "1>2:a -1>1:b"} {
		p := three(t, 4)
		has(t, "sent", p, threeText)
		has(t, "looked at", p, threeText)
		takes(t, p, i, strings.Fields(threeText)[i])
		has(t, "taken", p, rest)
		none(t, p, 2, api.ErrNone)
		do(t, p.Send(1, 2, []byte("a")))
		has(t, "sent again", p, rest+" 1>2:a")
	}
	p := three(t, 4)
	takes(t, p, 0, "1>2:a")
	takes(t, p, 0, "-1>1:b")
	takes(t, p, 0, "2>1:c")
	has(t, "all taken", p, "")
	none(t, p, 0, api.ErrNone)
}

// P8.1: where no letter is, ErrNone is answered, and nothing is changed.
func TestNone(t *testing.T) {
	for _, room := range []int{3, 10} {
		p := three(t, room)
		for _, i := range []int{-1, -2, math.MinInt, 3, 4, api.MaxPost, math.MaxInt} {
			none(t, p, i, api.ErrNone)
			has(t, "refused", p, threeText)
		}
	}
	for _, i := range []int{-1, 0, 1, math.MinInt, math.MaxInt} {
		none(t, with(t, 0), i, api.ErrNone)
		none(t, with(t, 5), i, api.ErrNone)
	}
}

// P8.1: a twin is the last on the way, if there is room; then they go on by themselves.
func TestTwin(t *testing.T) {
	for i, one := range strings.Fields(threeText) {
		p := three(t, 5)
		do(t, p.Twin(i))
		has(t, "once", p, threeText+" "+one)
		do(t, p.Twin(3))
		has(t, "of a twin", p, threeText+" "+one+" "+one)
		want(t, "no room", p.Twin(i), api.ErrFull)
		has(t, "no room", p, threeText+" "+one+" "+one)
		takes(t, p, i, one)
		takes(t, p, 2, one)
		takes(t, p, 2, one)
		if p.Len() != 2 {
			t.Errorf("%d on the way; want 2", p.Len())
		}
	}
}

// P8.2: what is sent on a way that is cut is lost, and no other; what is on the way is not, whatever is done with it.
func TestCut(t *testing.T) {
	p := three(t, 10)
	do(t, p.Cut(1, 2))
	has(t, "cut", p, threeText)
	want(t, "Send(1, 2)", p.Send(1, 2, []byte("x")), api.ErrDown)
	has(t, "lost", p, threeText)
	do(t, p.Send(2, 1, nil), p.Send(1, -2, nil), p.Send(-1, 2, nil), p.Send(1, 3, nil), p.Twin(0))
	has(t, "other ways, and a twin", p, threeText+" 2>1: 1>-2: -1>2: 1>3: 1>2:a")
	takes(t, p, 7, "1>2:a")
	takes(t, p, 0, "1>2:a")
	do(t, p.Cut(1, 2), p.Cut(2, 1), p.Heal(1, 2))
	want(t, "Send(2, 1)", p.Send(2, 1, nil), api.ErrDown)
	do(t, p.Send(1, 2, []byte("y")))
	has(t, "healed: what was lost stays lost", p, "-1>1:b 2>1:c 2>1: 1>-2: -1>2: 1>3: 1>2:y")
	do(t, p.Heal(2, 1), p.Heal(2, 1), p.Heal(5, 6), p.Send(2, 1, nil), p.Cut(2, 1))
	want(t, "cut again", p.Send(2, 1, nil), api.ErrDown)
}

// P8.2: all ways there are may be cut at once; each is healed by itself.
func TestAllWays(t *testing.T) {
	p := with(t, 1)
	each := func(do func(from, to int)) {
		for from := -16; from <= 16; from++ {
			for to := -16; to <= 16; to++ {
				if isGood(from) && isGood(to) && from != to {
					do(from, to)
				}
			}
		}
	}
	each(func(from, to int) { do(t, p.Cut(from, to)) })
	each(func(from, to int) { want(t, "cut", p.Send(from, to, nil), api.ErrDown) })
	each(func(from, to int) {
		want(t, "still cut", p.Send(from, to, nil), api.ErrDown)
		do(t, p.Heal(from, to), p.Send(from, to, nil))
		takes(t, p, 0, told(from, to, nil))
	})
	each(func(from, to int) {
		do(t, p.Send(from, to, nil))
		takes(t, p, 0, told(from, to, nil))
	})
}

// P8.2: a cut or a heal that is refused changes nothing.
func TestRefusedWays(t *testing.T) {
	p := three(t, 4)
	do(t, p.Cut(1, 2))
	for _, w := range [][2]int{{0, 2}, {1, 0}, {1, 1}, {17, 2}, {1, -17}, {2, 2}, {math.MinInt, math.MaxInt}} {
		want(t, "Cut", p.Cut(w[0], w[1]), api.ErrArg)
		want(t, "Heal", p.Heal(w[0], w[1]), api.ErrArg)
	}
	has(t, "refused", p, threeText)
	want(t, "Send(1, 2)", p.Send(1, 2, nil), api.ErrDown)
	do(t, p.Send(2, 1, nil))
}

// P8.2: a copy does the same, and neither hears of what is done to the other.
func TestCopy(t *testing.T) {
	p := three(t, 4)
	do(t, p.Cut(1, 2))
	q := p.Copy()
	for _, c := range []struct{ one, other *Post }{{p, q}, {q, p}} {
		one, other := c.one.Copy(), c.other
		has(t, "copied", one, threeText)
		want(t, "Send(1, 2)", one.Send(1, 2, nil), api.ErrDown)
		takes(t, one, 1, "-1>1:b")
		do(t, one.Send(2, 1, []byte("d")), one.Twin(0), one.Heal(1, 2), one.Cut(2, 1))
		want(t, "no more room than there was", one.Send(1, 2, nil), api.ErrFull)
		takes(t, one, 0, "1>2:a")
		do(t, one.Send(1, 2, nil))
		has(t, "the one", one, "2>1:c 2>1:d 1>2:a 1>2:")

		has(t, "the other", other, threeText)
		want(t, "the other, Send(1, 2)", other.Send(1, 2, nil), api.ErrDown)
		do(t, other.Send(2, 1, []byte("e")))
		want(t, "the other, full", other.Twin(0), api.ErrFull)
		takes(t, other, 3, "2>1:e")
	}
}

// P8.2: letters that one of two sends behind a copy do not come over those of the other.
func TestCopyThenSend(t *testing.T) {
	for n := range 10 {
		p := with(t, 20)
		text := ""
		for i := range n {
			do(t, p.Send(1, 2, []byte{byte('a' + i)}))
			text += "1>2:" + string(rune('a'+i)) + " "
		}
		q := p.Copy()
		do(t, p.Send(1, 2, []byte("P")), q.Send(2, 1, []byte("Q")))
		has(t, "the one", p, text+"1>2:P")
		has(t, "the other", q, text+"2>1:Q")
	}
}

// P8.2: no post.
func TestNil(t *testing.T) {
	var p *Post
	for _, n := range []int{0, 1, -1, 2, 16, -16, 17, math.MinInt, math.MaxInt} {
		for _, data := range [][]byte{nil, {1}, make([]byte, api.MaxFrame+1)} {
			want(t, "Send", p.Send(n, 2, data), api.ErrArg)
		}
		want(t, "Cut", p.Cut(n, 2), api.ErrArg)
		want(t, "Heal", p.Heal(n, 2), api.ErrArg)
		none(t, p, n, api.ErrArg)
	}
	if p.Len() != 0 || p.Copy() != nil {
		t.Errorf("Len %d, Copy %v", p.Len(), p.Copy())
	}
}

// R1: a post that nobody made has no room, and does all else.
func TestZero(t *testing.T) {
	var p Post
	has(t, "zero", &p, "")
	none(t, &p, 0, api.ErrNone)
	do(t, p.Heal(1, 2))
	want(t, "Send", p.Send(1, 2, nil), api.ErrFull)
	q := p.Copy()
	do(t, q.Cut(1, 2))
	want(t, "the copy", q.Send(1, 2, nil), api.ErrDown)
	want(t, "the copied one", p.Send(1, 2, nil), api.ErrFull)
	do(t, p.Cut(1, 2))
	want(t, "cut", p.Send(1, 2, nil), api.ErrDown)
}

// R4: what is handed in is neither changed nor kept.
func TestNothingIsKept(t *testing.T) {
	room := []byte("abcdef")
	p := with(t, 5)
	do(t, p.Send(1, 2, room[1:3:5]), p.Twin(0))
	if string(room) != "abcdef" {
		t.Errorf("Send changed what was handed in: %q", room)
	}
	copy(room, "XXXXXX")
	has(t, "kept", p, "1>2:bc 1>2:bc")
	has(t, "copied", p.Copy(), "1>2:bc 1>2:bc")
}

// R4, P8.2: what is answered is shared with nobody: not with what is on the way, not with a twin, not with a copy.
func TestNothingIsShared(t *testing.T) {
	p := with(t, 5)
	do(t, p.Send(1, 2, []byte("abc")), p.Twin(0), p.Send(1, 3, []byte("def")))
	const text = "1>2:abc 1>2:abc 1>3:def"
	q := p.Copy()
	_, _, one, _ := p.Look(0)
	_, _, two, _ := p.Look(0)
	copy(one, "XYZ")
	_ = append(one, "more"...)
	if string(two) != "abc" {
		t.Errorf("two answers are one: %q", two)
	}
	has(t, "looked at", p, text)
	has(t, "the copy", q, text)

	_, _, one, _ = p.Take(0)
	copy(one, "XYZ")
	_ = append(one, "more"...)
	has(t, "taken", p, "1>2:abc 1>3:def")
	has(t, "the copy", q, text)
	_, _, two, _ = q.Take(1)
	copy(two, "xyz")
	has(t, "the copy, taken", q, "1>2:abc 1>3:def")
	if string(one) != "XYZ" || string(two) != "xyz" {
		t.Errorf("two answers are one: %q, %q", one, two)
	}
	// What is sent now may not come over what was taken.
	do(t, p.Send(2, 1, []byte("ghi")))
	if string(one) != "XYZ" {
		t.Errorf("what was taken is changed: %q", one)
	}
}
