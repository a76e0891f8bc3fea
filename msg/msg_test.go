package msg

import (
	"bytes"
	"encoding/hex"
	"math"
	"reflect"
	"strings"
	"testing"

	"scupper/api"
)

// face is a pair of calls: a value's bytes, and what bytes are the value of.
type face[T any] struct {
	name string
	to   func(T) ([]byte, api.Errno)
	from func([]byte) (T, api.Errno)
}

var (
	entryFace   = face[api.Entry]{"Entry", Entry, ToEntry}
	confFace    = face[api.Conf]{"Conf", Conf, ToConf}
	hardFace    = face[api.Hard]{"Hard", Hard, ToHard}
	shotFace    = face[api.Shot]{"Shot", Shot, ToShot}
	msgFace     = face[api.Msg]{"Msg", Msg, ToMsg}
	commandFace = face[api.Command]{"Command", Command, ToCommand}
	replyFace   = face[api.Reply]{"Reply", Reply, ToReply}
	askFace     = face[api.Ask]{"Ask", Ask, ToAsk}
	toldFace    = face[api.Told]{"Told", Told, ToTold}
)

// wantNum appends a number as chapter 2 tells it.
func wantNum(b []byte, n uint64) []byte {
	var digits []byte
	for ; n > 0; n >>= 8 {
		digits = append([]byte{byte(n)}, digits...)
	}
	return append(append(b, byte(len(digits))), digits...)
}

// wantBytes is what the chapter says that a value's bytes are, sound or not, by going through its fields in api's order.
func wantBytes(x any) []byte { return wantValue(nil, reflect.ValueOf(x)) }

func wantValue(b []byte, v reflect.Value) []byte {
	switch v.Kind() {
	case reflect.Struct:
		for i := range v.NumField() {
			b = wantValue(b, v.Field(i))
		}
		return b
	case reflect.Slice:
		b = wantNum(b, uint64(v.Len()))
		if v.Type().Elem().Kind() == reflect.Uint8 {
			return append(b, v.Bytes()...)
		}
		for i := range v.Len() {
			b = wantValue(b, v.Index(i))
		}
		return b
	case reflect.String:
		return append(wantNum(b, uint64(v.Len())), v.String()...)
	case reflect.Bool:
		if v.Bool() {
			return wantNum(b, 1)
		}
		return wantNum(b, 0)
	case reflect.Int, reflect.Int64:
		return wantNum(b, uint64(v.Int()))
	case reflect.Uint64:
		return wantNum(b, v.Uint())
	}
	panic("no such field: " + v.Kind().String())
}

// same holds values against each other; nil and empty lists are the same.
func same(a, b any) bool { return bytes.Equal(wantBytes(a), wantBytes(b)) }

// isSound holds both calls to what they must answer of a sound value.
func (f face[T]) isSound(t *testing.T, what string, x T) {
	t.Helper()
	want := wantBytes(x)
	b, e := f.to(x)
	if !bytes.Equal(b, want) || e != api.OK {
		t.Errorf("%s of %s: %s, %d; want %s", f.name, what, short(b), e, short(want))
	}
	if back, e := f.from(want); !same(back, x) || e != api.OK {
		t.Errorf("To%s of the bytes of %s: %d; its bytes: %s; want %s", f.name, what, e, short(wantBytes(back)), short(want))
	}
}

// isUnsound holds both calls to what they must answer of a value that is not sound.
func (f face[T]) isUnsound(t *testing.T, what string, x T) {
	t.Helper()
	if b, e := f.to(x); b != nil || e != api.ErrForm {
		t.Errorf("%s of %s: %s, %d; want ErrForm", f.name, what, short(b), e)
	}
	f.isNone(t, "what would be the bytes of "+what, wantBytes(x))
}

// isNone holds To.. to what it must answer of bytes that are no value's.
func (f face[T]) isNone(t *testing.T, what string, b []byte) {
	t.Helper()
	var zero T
	if x, e := f.from(b); !reflect.DeepEqual(x, zero) || e != api.ErrText {
		t.Errorf("To%s of %s (%s): %+v, %d; want nothing, ErrText", f.name, what, short(b), x, e)
	}
}

func short(b []byte) string {
	if len(b) > 80 {
		return hex.EncodeToString(b[:80]) + ".."
	}
	return hex.EncodeToString(b)
}

// edge is a value that just is sound, or just is not.
type edge[T any] struct {
	what  string
	x     T
	sound bool
}

func (f face[T]) hold(t *testing.T, edges []edge[T]) {
	t.Helper()
	for _, c := range edges {
		if c.sound {
			f.isSound(t, c.what, c.x)
		} else {
			f.isUnsound(t, c.what, c.x)
		}
	}
}

// turned is x with something changed.
func turned[T any](x T, change func(x *T)) T {
	change(&x)
	return x
}

// written is a value of which the bytes are written out by hand.
type written[T any] struct {
	x    T
	want string
}

func (f face[T]) holdWritten(t *testing.T, list []written[T]) {
	t.Helper()
	for _, c := range list {
		want, err := hex.DecodeString(strings.ReplaceAll(c.want, " ", ""))
		if err != nil {
			t.Fatal(err)
		}
		if b, e := f.to(c.x); !bytes.Equal(b, want) || e != api.OK {
			t.Errorf("%s of %+v: %x, %d; want %x", f.name, c.x, b, e, want)
		}
		if x, e := f.from(want); !same(x, c.x) || e != api.OK {
			t.Errorf("To%s of %x: %+v, %d; want %+v", f.name, want, x, e, c.x)
		}
		if !bytes.Equal(wantBytes(c.x), want) {
			t.Errorf("the test's own bytes of %+v: %x; want %x", c.x, wantBytes(c.x), want)
		}
	}
}

// P3.1, P3.2: values of which the bytes are written out, the chapter's examples among them.
func TestWrittenOut(t *testing.T) {
	hardFace.holdWritten(t, []written[api.Hard]{
		{api.Hard{}, "00 00"},
		{api.Hard{Term: 5, Vote: 2}, "01 05 01 02"},
		{api.Hard{Term: math.MaxUint64, Vote: 16}, "08 ff ff ff ff ff ff ff ff 01 10"},
	})
	confFace.holdWritten(t, []written[api.Conf]{
		{api.Conf{Voters: []int{1, 3}, Learners: []int{2}}, "01 02 01 01 01 03 01 01 01 02"},
		{api.Conf{Voters: []int{16}}, "01 01 01 10 00"},
	})
	entryFace.holdWritten(t, []written[api.Entry]{
		{api.Entry{Index: 1, Term: 256, Kind: api.EntryNone}, "01 01 02 01 00 01 01 00 00"},
		{api.Entry{Index: 7, Term: 8, Kind: api.EntryData, Delta: 9, Data: []byte{0, 1}}, "01 07 01 08 01 02 01 09 01 02 00 01"},
		{api.Entry{Index: 7, Term: 8, Kind: api.EntryConf, Data: []byte{1, 1, 1, 4, 0}}, "01 07 01 08 01 03 00 01 05 01 01 01 04 00"},
	})
	shotFace.holdWritten(t, []written[api.Shot]{
		{api.Shot{Conf: api.Conf{Voters: []int{1}}}, "00 00 01 01 01 01 00 00"},
		{api.Shot{Index: 3, Term: 2, Conf: api.Conf{Voters: []int{1}, Learners: []int{9}}, Data: []byte("ab")}, "01 03 01 02 01 01 01 01 01 01 01 09 01 02 61 62"},
	})
	msgFace.holdWritten(t, []written[api.Msg]{
		{api.Msg{Kind: api.PreAsk, From: 1, To: 2}, "01 01 01 01 01 02 00 00 00 00 00 00 00 00 00 00 00"},
		{api.Msg{Kind: api.Append, From: 3, To: 4, Term: 5, Index: 6, LogTerm: 7, Commit: 8, Round: 9, OK: true, Entries: []api.Entry{{Index: 7, Term: 5, Kind: api.EntryNone}}, Off: 10, Data: []byte{11}},
			"01 05 01 03 01 04 01 05 01 06 01 07 01 08 01 09 01 01 01 01 01 07 01 05 01 01 00 00 00 00 01 0a 01 01 0b"},
		{api.Msg{Kind: api.Chunk, From: 3, To: 4, Conf: api.Conf{Voters: []int{5}, Learners: []int{6}}}, "01 07 01 03 01 04 00 00 00 00 00 00 00 01 01 01 05 01 01 01 06 00 00"},
	})
	commandFace.holdWritten(t, []written[api.Command]{
		{api.Command{Op: api.OpPass}, "00 00 01 05 00 00 00 00"},
		{api.Command{Session: 1, Seq: 2, Op: api.OpCap, Key: "k", Amount: -1, Span: math.MinInt64, Lease: 3},
			"01 01 01 02 01 01 01 01 6b 08 ff ff ff ff ff ff ff ff 08 80 00 00 00 00 00 00 00 01 03"},
	})
	replyFace.holdWritten(t, []written[api.Reply]{
		{api.Reply{}, "00 00 00 00 00 00"},
		{api.Reply{Session: 1, Seq: 2, E: api.ErrOrder, Lease: 3, Amount: 4, Until: 5}, "01 01 01 02 01 14 01 03 01 04 01 05"},
	})
	askFace.holdWritten(t, []written[api.Ask]{
		{api.Ask{Look: true, Lazy: true, Seq: 2, Key: "k"}, "01 01 01 01 01 02 00 00 00 00 00 00 00 01 01 6b"},
		{api.Ask{Seq: 2, Cmd: api.Command{Session: 3, Seq: 2, Op: api.OpPass}}, "00 00 01 02 01 03 01 02 01 05 00 00 00 00 00"},
	})
	toldFace.holdWritten(t, []written[api.Told]{
		{api.Told{}, "00 00 00 00 00 00 00 00 00 00 00"},
		{api.Told{Seq: 1, Retry: true, Lead: 2, Reply: api.Reply{Session: 3, Seq: 4, E: 5, Lease: 6, Amount: 7, Until: 8}, Cap: 9, Lent: 10}, "01 01 01 01 01 02 01 03 01 04 01 05 01 06 01 07 01 08 01 09 01 0a"},
	})
}

const place = uint64(1) << 62

var someConf = api.Conf{Voters: []int{1, 2, 5}, Learners: []int{3, 16}}

// P3.1, P3.2: the ends of what is sound of an Entry.
func TestEntryEnds(t *testing.T) {
	conf := wantBytes(someConf)
	entry := api.Entry{Index: 3, Term: 2, Kind: api.EntryData, Delta: 5, Data: []byte("data")}
	with := func(change func(x *api.Entry)) api.Entry { return turned(entry, change) }
	kind := func(kind int, data []byte) api.Entry {
		return api.Entry{Index: 3, Term: 2, Kind: kind, Delta: 5, Data: data}
	}
	entryFace.hold(t, []edge[api.Entry]{
		{"an ordinary one", entry, true},
		{"nothing", api.Entry{}, false},
		{"Index 0", with(func(x *api.Entry) { x.Index = 0 }), false},
		{"Index 1", with(func(x *api.Entry) { x.Index = 1 }), true},
		{"the greatest Index", with(func(x *api.Entry) { x.Index = place }), true},
		{"an Index above", with(func(x *api.Entry) { x.Index = place + 1 }), false},
		{"Index all bits", with(func(x *api.Entry) { x.Index = math.MaxUint64 }), false},
		{"Term 0", with(func(x *api.Entry) { x.Term = 0 }), false},
		{"Term 1", with(func(x *api.Entry) { x.Term = 1 }), true},
		{"the greatest Term", with(func(x *api.Entry) { x.Term = place }), true},
		{"a Term above", with(func(x *api.Entry) { x.Term = place + 1 }), false},
		{"Term all bits", with(func(x *api.Entry) { x.Term = math.MaxUint64 }), false},
		{"Delta 0", with(func(x *api.Entry) { x.Delta = 0 }), true},
		{"Delta -1", with(func(x *api.Entry) { x.Delta = -1 }), false},
		{"the least Delta", with(func(x *api.Entry) { x.Delta = math.MinInt64 }), false},
		{"Delta MaxTerm", with(func(x *api.Entry) { x.Delta = api.MaxTerm }), true},
		{"Delta above MaxTerm", with(func(x *api.Entry) { x.Delta = api.MaxTerm + 1 }), false},
		{"Kind 0", kind(0, nil), false},
		{"Kind -1", kind(-1, nil), false},
		{"Kind 4", kind(4, nil), false},
		{"Kind 4 with a Conf", kind(4, conf), false},
		{"the least Kind", kind(math.MinInt, nil), false},
		{"EntryNone", kind(api.EntryNone, nil), true},
		{"EntryNone with an empty list", kind(api.EntryNone, []byte{}), true},
		{"EntryNone with Data", kind(api.EntryNone, []byte{0}), false},
		{"EntryNone with a Conf", kind(api.EntryNone, conf), false},
		{"EntryData without Data", kind(api.EntryData, nil), true},
		{"EntryData with all that may be", kind(api.EntryData, make([]byte, api.MaxFrame/16)), true},
		{"EntryData with one byte more", kind(api.EntryData, make([]byte, api.MaxFrame/16+1)), false},
		{"EntryConf", kind(api.EntryConf, conf), true},
		{"EntryConf without Data", kind(api.EntryConf, nil), false},
		{"EntryConf with one byte less", kind(api.EntryConf, conf[:len(conf)-1]), false},
		{"EntryConf with one byte more", kind(api.EntryConf, append(bytes.Clone(conf), 0)), false},
		{"EntryConf that nobody votes in", kind(api.EntryConf, wantBytes(api.Conf{Learners: []int{1}})), false},
		{"EntryConf of no Conf", kind(api.EntryConf, []byte("data")), false},
		{"EntryConf too long", kind(api.EntryConf, append(bytes.Clone(conf), make([]byte, api.MaxFrame/16)...)), false},
	})
}

// P3.1, P3.2: the ends of what is sound of a Conf.
func TestConfEnds(t *testing.T) {
	var all []int
	for id := range api.MaxNodes {
		all = append(all, id+1)
	}
	of := func(voters, learners []int) api.Conf { return api.Conf{Voters: voters, Learners: learners} }
	confFace.hold(t, []edge[api.Conf]{
		{"an ordinary one", someConf, true},
		{"nobody", api.Conf{}, false},
		{"empty lists", of([]int{}, []int{}), false},
		{"nobody who votes", of(nil, []int{1}), false},
		{"nobody who learns, empty", of([]int{7}, []int{}), true},
		{"all vote", of(all, nil), true},
		{"all learn but one", of(all[:1], all[1:]), true},
		{"all learn but the last", of(all[15:], all[:15]), true},
		{"all learn", of(nil, all), false},
		{"voter 0", of([]int{0}, nil), false},
		{"voter 0 ahead", of([]int{0, 1}, nil), false},
		{"voter -1", of([]int{-1, 1}, nil), false},
		{"voter 17", of([]int{1, api.MaxNodes + 1}, nil), false},
		{"seventeen", of(append(append([]int{}, all...), api.MaxNodes+1), nil), false},
		{"from 0 on, seventeen", of(append([]int{0}, all...), nil), false},
		{"the greatest number", of([]int{1, math.MaxInt}, nil), false},
		{"learner 0", of([]int{1}, []int{0}), false},
		{"learner 0 ahead", of([]int{1}, []int{0, 2}), false},
		{"learner 17", of([]int{1}, []int{api.MaxNodes + 1}), false},
		{"a learner below 0", of([]int{1}, []int{math.MinInt}), false},
		{"voters fall", of([]int{2, 1}, nil), false},
		{"voters fall at the end", of([]int{1, 3, 2}, nil), false},
		{"a voter twice", of([]int{1, 1}, nil), false},
		{"a voter twice at the end", of([]int{1, 2, 2}, nil), false},
		{"learners fall", of([]int{1}, []int{3, 2}), false},
		{"a learner twice", of([]int{1}, []int{2, 4, 4}), false},
		{"in both, alone", of([]int{1}, []int{1}), false},
		{"in both, the last", of([]int{1, 2, 9}, []int{3, 9}), false},
		{"in both, the first of the voters", of([]int{5, 6}, []int{1, 2, 3, 5}), false},
		{"in both, the first of the learners", of([]int{1, 2, 3, 5}, []int{5, 6}), false},
		{"one between the others", of([]int{1, 3, 5}, []int{2, 4, 6}), true},
		{"all of one ahead of the other", of([]int{8, 9}, []int{1, 2}), true},
		{"more than may be", of(make([]int, 5000), nil), false},
	})
}

// P3.1, P3.2: every Conf of nodes up to 4: each votes, learns, or does not stand in it.
func TestAllSmallConfs(t *testing.T) {
	for n := range 3 * 3 * 3 * 3 {
		var c api.Conf
		for id, rest := 1, n; id <= 4; id, rest = id+1, rest/3 {
			switch rest % 3 {
			case 1:
				c.Voters = append(c.Voters, id)
			case 2:
				c.Learners = append(c.Learners, id)
			}
		}
		confFace.hold(t, []edge[api.Conf]{{hex.EncodeToString(wantBytes(c)), c, len(c.Voters) > 0}})
	}
}

// P3.1, P3.2: the ends of what is sound of a Hard.
func TestHardEnds(t *testing.T) {
	hardFace.hold(t, []edge[api.Hard]{
		{"nothing", api.Hard{}, true},
		{"the greatest Term", api.Hard{Term: math.MaxUint64}, true},
		{"Vote MaxNodes", api.Hard{Term: 9, Vote: api.MaxNodes}, true},
		{"Vote above", api.Hard{Term: 9, Vote: api.MaxNodes + 1}, false},
		{"Vote 256", api.Hard{Term: 9, Vote: 256}, false},
		{"Vote -1", api.Hard{Term: 9, Vote: -1}, false},
		{"the greatest Vote", api.Hard{Vote: math.MaxInt}, false},
		{"the least Vote", api.Hard{Vote: math.MinInt}, false},
	})
}

// P3.1, P3.2: the ends of what is sound of a Shot.
func TestShotEnds(t *testing.T) {
	shot := api.Shot{Index: 3, Term: 2, Conf: someConf, Data: []byte("data")}
	with := func(change func(x *api.Shot)) api.Shot { return turned(shot, change) }
	shotFace.hold(t, []edge[api.Shot]{
		{"an ordinary one", shot, true},
		{"nothing", api.Shot{}, false},
		{"no place", with(func(x *api.Shot) { x.Index, x.Term = 0, 0 }), true},
		{"the first place", with(func(x *api.Shot) { x.Index, x.Term = 1, 1 }), true},
		{"a place without a term", with(func(x *api.Shot) { x.Term = 0 }), false},
		{"a term without a place", with(func(x *api.Shot) { x.Index = 0 }), false},
		{"the greatest place", with(func(x *api.Shot) { x.Index, x.Term = place, place }), true},
		{"a place above", with(func(x *api.Shot) { x.Index = place + 1 }), false},
		{"a term above", with(func(x *api.Shot) { x.Term = place + 1 }), false},
		{"place and term all bits", with(func(x *api.Shot) { x.Index, x.Term = math.MaxUint64, math.MaxUint64 }), false},
		{"nobody votes", with(func(x *api.Shot) { x.Conf.Voters = nil }), false},
		{"no Conf", with(func(x *api.Shot) { x.Conf = api.Conf{} }), false},
		{"one in both", with(func(x *api.Shot) { x.Conf.Learners = []int{5} }), false},
		{"voters that fall", with(func(x *api.Shot) { x.Conf.Voters = []int{2, 1} }), false},
		{"no Data", with(func(x *api.Shot) { x.Data = nil }), true},
		{"all Data that may be", with(func(x *api.Shot) { x.Data = make([]byte, api.MaxFrame/2) }), true},
		{"a byte more", with(func(x *api.Shot) { x.Data = make([]byte, api.MaxFrame/2+1) }), false},
	})
}

// entries are n sound ones.
func entries(n int) []api.Entry {
	var list []api.Entry
	for i := range n {
		list = append(list, api.Entry{Index: uint64(i + 1), Term: uint64(i/3 + 1), Kind: api.EntryData, Delta: int64(i), Data: bytes.Repeat([]byte{byte(i)}, i)})
	}
	return list
}

// P3.1, P3.2: the ends of what is sound of a Msg, of each kind.
func TestMsgEnds(t *testing.T) {
	for kind := api.PreAsk; kind <= api.Now; kind++ {
		m := api.Msg{Kind: kind, From: 1, To: 3, Term: 4, Index: 5, LogTerm: 6, Commit: 7, Round: 8, Off: 9, Data: []byte("piece")}
		if kind == api.Chunk {
			m.Conf = someConf
		}
		msgFace.hold(t, msgEnds(m))
		msgFace.hold(t, msgConfEnds(m))
	}
	for _, kind := range []int{0, -1, 10, math.MinInt, math.MaxInt} {
		msgFace.isUnsound(t, "no kind", api.Msg{Kind: kind, From: 1, To: 3})
		msgFace.isUnsound(t, "no kind, with a Conf", api.Msg{Kind: kind, From: 1, To: 3, Conf: someConf})
	}
	msgFace.isUnsound(t, "nothing", api.Msg{})
}

func msgEnds(m api.Msg) []edge[api.Msg] {
	with := func(change func(x *api.Msg)) api.Msg { return turned(m, change) }
	large := entries(api.MaxBatch)
	for i := range large {
		large[i].Data = make([]byte, api.MaxFrame/16)
	}
	return []edge[api.Msg]{
		{"an ordinary one", m, true},
		{"From 0", with(func(x *api.Msg) { x.From = 0 }), false},
		{"From -1", with(func(x *api.Msg) { x.From = -1 }), false},
		{"From MaxNodes", with(func(x *api.Msg) { x.From = api.MaxNodes }), true},
		{"From above", with(func(x *api.Msg) { x.From = api.MaxNodes + 1 }), false},
		{"To 0", with(func(x *api.Msg) { x.To = 0 }), false},
		{"To -1", with(func(x *api.Msg) { x.To = -1 }), false},
		{"To 1, as From", with(func(x *api.Msg) { x.To = 1 }), true},
		{"To MaxNodes", with(func(x *api.Msg) { x.To = api.MaxNodes }), true},
		{"To above", with(func(x *api.Msg) { x.To = api.MaxNodes + 1 }), false},
		{"all numbers at their end", with(func(x *api.Msg) {
			x.Term, x.Index, x.LogTerm, x.Commit, x.Round = math.MaxUint64, math.MaxUint64-1, math.MaxUint64-2, math.MaxUint64-3, math.MaxUint64-4
		}), true},
		{"all numbers 0", with(func(x *api.Msg) { x.Term, x.Index, x.LogTerm, x.Commit, x.Round = 0, 0, 0, 0, 0 }), true},
		{"OK", with(func(x *api.Msg) { x.OK = true }), true},
		{"an entry", with(func(x *api.Msg) { x.Entries = entries(1) }), true},
		{"an empty list of entries", with(func(x *api.Msg) { x.Entries = []api.Entry{} }), true},
		{"all entries that may be", with(func(x *api.Msg) { x.Entries = entries(api.MaxBatch) }), true},
		{"all entries that may be, as large as may be", with(func(x *api.Msg) { x.Entries = large }), true},
		{"an entry more", with(func(x *api.Msg) { x.Entries = entries(api.MaxBatch + 1) }), false},
		{"entries that do not follow", with(func(x *api.Msg) { x.Entries = append(entries(3), entries(2)...) }), true},
		{"the first entry not sound", with(func(x *api.Msg) { x.Entries = entries(3); x.Entries[0].Index = 0 }), false},
		{"the last entry not sound", with(func(x *api.Msg) { x.Entries = entries(3); x.Entries[2].Kind = api.EntryNone }), false},
		{"an entry with no Conf", with(func(x *api.Msg) { x.Entries = entries(3); x.Entries[1].Kind = api.EntryConf }), false},
		{"an entry with a Conf", with(func(x *api.Msg) {
			x.Entries = entries(3)
			x.Entries[1].Kind, x.Entries[1].Data = api.EntryConf, wantBytes(someConf)
		}), true},
		{"Off 0", with(func(x *api.Msg) { x.Off = 0 }), true},
		{"Off -1", with(func(x *api.Msg) { x.Off = -1 }), false},
		{"Off MaxFrame", with(func(x *api.Msg) { x.Off = api.MaxFrame }), true},
		{"Off above", with(func(x *api.Msg) { x.Off = api.MaxFrame + 1 }), false},
		{"the greatest Off", with(func(x *api.Msg) { x.Off = math.MaxInt }), false},
		{"no Data", with(func(x *api.Msg) { x.Data = nil }), true},
		{"all Data that may be", with(func(x *api.Msg) { x.Data = make([]byte, api.MaxChunk) }), true},
		{"a byte more", with(func(x *api.Msg) { x.Data = make([]byte, api.MaxChunk+1) }), false},
	}
}

// msgConfEnds: a Chunk has a sound Conf, and nothing else has any.
func msgConfEnds(m api.Msg) []edge[api.Msg] {
	chunk := m.Kind == api.Chunk
	with := func(voters, learners []int) api.Msg {
		m.Conf = api.Conf{Voters: voters, Learners: learners}
		return m
	}
	return []edge[api.Msg]{
		{"no Conf", with(nil, nil), !chunk},
		{"a Conf of empty lists", with([]int{}, []int{}), !chunk},
		{"a sound Conf", with([]int{1, 3}, []int{2}), chunk},
		{"a Conf of voters", with([]int{1}, nil), chunk},
		{"a Conf of learners", with(nil, []int{2}), false},
		{"one in both", with([]int{1}, []int{1}), false},
		{"voters that fall", with([]int{2, 1}, nil), false},
		{"learners that fall", with([]int{1}, []int{3, 2}), false},
		{"voter 0", with([]int{0}, nil), false},
		{"voter 17", with([]int{17}, nil), false},
		{"seventeen noughts", with(make([]int, 17), nil), false},
	}
}

// commandEnds tell the ends of what is sound of a Command.
func commandEnds() []edge[api.Command] {
	c := api.Command{Session: 3, Seq: 4, Op: api.OpAcquire, Key: "key", Amount: 5, Span: 6, Lease: 7}
	with := func(change func(x *api.Command)) api.Command { return turned(c, change) }
	list := []edge[api.Command]{
		{"an ordinary one", c, true},
		{"nothing", api.Command{}, false},
		{"Op 0", with(func(x *api.Command) { x.Op = 0 }), false},
		{"Op -1", with(func(x *api.Command) { x.Op = -1 }), false},
		{"Op 6", with(func(x *api.Command) { x.Op = 6 }), false},
		{"the greatest Op", with(func(x *api.Command) { x.Op = math.MaxInt }), false},
		{"no Key", with(func(x *api.Command) { x.Key = "" }), true},
		{"the longest Key", with(func(x *api.Command) { x.Key = strings.Repeat("k", api.MaxKey) }), true},
		{"a byte more", with(func(x *api.Command) { x.Key = strings.Repeat("k", api.MaxKey+1) }), false},
		{"more bytes than runes", with(func(x *api.Command) { x.Key = strings.Repeat("é", api.MaxKey/2+1) }), false},
		{"a Key of any bytes", with(func(x *api.Command) { x.Key = "\x00\xff\xc3\n" }), true},
		{"the least numbers", with(func(x *api.Command) { x.Amount, x.Span = math.MinInt64, math.MinInt64 }), true},
		{"the greatest numbers", with(func(x *api.Command) { x.Amount, x.Span = math.MaxInt64, math.MaxInt64 }), true},
		{"-1 and -256", with(func(x *api.Command) { x.Amount, x.Span = -1, -256 }), true},
		{"nobody's", with(func(x *api.Command) { x.Session, x.Seq, x.Lease = 0, 0, 0 }), true},
		{"numbers at their ends", with(func(x *api.Command) { x.Session, x.Seq, x.Lease = math.MaxUint64, math.MaxUint64, math.MaxUint64 }), true},
	}
	for op := api.OpCap; op <= api.OpPass; op++ {
		list = append(list, edge[api.Command]{"each Op", with(func(x *api.Command) { x.Op = op }), true})
	}
	return list
}

// P3.1, P3.2: the ends of what is sound of a Command, alone and in an Ask.
func TestCommandEnds(t *testing.T) {
	commandFace.hold(t, commandEnds())
	for _, c := range commandEnds() {
		askFace.hold(t, []edge[api.Ask]{
			{"an ask with " + c.what, api.Ask{Seq: 9, Cmd: c.x}, c.sound},
			{"a look with " + c.what, api.Ask{Look: true, Seq: 9, Cmd: c.x}, c.x == api.Command{}},
		})
	}
}

// replyEnds tell the ends of what is sound of a Reply.
func replyEnds() []edge[api.Reply] {
	r := api.Reply{Session: 3, Seq: 4, E: api.ErrQuota, Lease: 5, Amount: 6, Until: 7}
	with := func(change func(x *api.Reply)) api.Reply { return turned(r, change) }
	list := []edge[api.Reply]{
		{"an ordinary one", r, true},
		{"nothing", api.Reply{}, true},
		{"an error below all", with(func(x *api.Reply) { x.E = -1 }), false},
		{"an error above all", with(func(x *api.Reply) { x.E = api.ErrOrder + 1 }), false},
		{"the least error", with(func(x *api.Reply) { x.E = math.MinInt }), false},
		{"the greatest error", with(func(x *api.Reply) { x.E = math.MaxInt }), false},
		{"the least numbers", with(func(x *api.Reply) { x.Amount, x.Until = math.MinInt64, math.MinInt64 }), true},
		{"the greatest numbers", with(func(x *api.Reply) { x.Amount, x.Until = math.MaxInt64, math.MaxInt64 }), true},
		{"numbers at their ends", with(func(x *api.Reply) { x.Session, x.Seq, x.Lease = math.MaxUint64, math.MaxUint64, math.MaxUint64 }), true},
	}
	for e := api.OK; e <= api.ErrOrder; e++ {
		list = append(list, edge[api.Reply]{"each error", with(func(x *api.Reply) { x.E = e }), true})
	}
	return list
}

// P3.1, P3.2: the ends of what is sound of a Reply, alone and in a Told.
func TestReplyEnds(t *testing.T) {
	replyFace.hold(t, replyEnds())
	for _, c := range replyEnds() {
		toldFace.hold(t, []edge[api.Told]{
			{"a told with " + c.what, api.Told{Seq: 9, Reply: c.x}, c.sound},
			{"a retry with " + c.what, api.Told{Seq: 9, Retry: true, Lead: 1, Reply: c.x}, c.sound},
		})
	}
}

// P3.1, P3.2: the ends of what is sound of an Ask.
func TestAskEnds(t *testing.T) {
	cmd := api.Command{Session: 3, Seq: 4, Op: api.OpPass}
	look := func(lazy bool, key string) api.Ask { return api.Ask{Look: true, Lazy: lazy, Seq: 5, Key: key} }
	askFace.hold(t, []edge[api.Ask]{
		{"nothing", api.Ask{}, false},
		{"a look", look(false, "key"), true},
		{"a lazy look", look(true, "key"), true},
		{"a look at no key", look(false, ""), true},
		{"a look at the longest key", look(false, strings.Repeat("\xff", api.MaxKey)), true},
		{"a look at a byte more", look(false, strings.Repeat("\xff", api.MaxKey+1)), false},
		{"a look with a command", api.Ask{Look: true, Cmd: cmd}, false},
		{"a look with a command's session alone", api.Ask{Look: true, Cmd: api.Command{Session: 1}}, false},
		{"a look with a command's number alone", api.Ask{Look: true, Cmd: api.Command{Seq: 1}}, false},
		{"a look with a command's op alone", api.Ask{Look: true, Cmd: api.Command{Op: 1}}, false},
		{"a look with a command's key alone", api.Ask{Look: true, Cmd: api.Command{Key: "k"}}, false},
		{"a look with a command's amount alone", api.Ask{Look: true, Cmd: api.Command{Amount: 1}}, false},
		{"a look with a command's span alone", api.Ask{Look: true, Cmd: api.Command{Span: 1}}, false},
		{"a look with a command's lease alone", api.Ask{Look: true, Cmd: api.Command{Lease: 1}}, false},
		{"a command", api.Ask{Seq: math.MaxUint64, Cmd: cmd}, true},
		{"a command of another number", api.Ask{Seq: 0, Cmd: cmd}, true},
		{"a command, lazily", api.Ask{Lazy: true, Seq: 4, Cmd: cmd}, false},
		{"a command with a key to look at", api.Ask{Seq: 4, Cmd: cmd, Key: "k"}, false},
		{"neither, with a key", api.Ask{Seq: 4, Key: "k"}, false},
	})
}

// P3.1, P3.2: the ends of what is sound of a Told.
func TestToldEnds(t *testing.T) {
	told := func(lead int) api.Told {
		return api.Told{Seq: math.MaxUint64, Lead: lead, Reply: api.Reply{E: api.ErrLead}, Cap: math.MinInt64, Lent: math.MaxInt64}
	}
	toldFace.hold(t, []edge[api.Told]{
		{"nothing", api.Told{}, true},
		{"Lead 0", told(0), true},
		{"Lead 1", told(1), true},
		{"Lead MaxNodes", told(api.MaxNodes), true},
		{"Lead above", told(api.MaxNodes + 1), false},
		{"Lead -1", told(-1), false},
		{"the greatest Lead", told(math.MaxInt), false},
		{"all at once", api.Told{Seq: 1, Retry: true, Lead: 2, Reply: api.Reply{Session: 3, Seq: 4}, Cap: -1, Lent: -2}, true},
	})
}
