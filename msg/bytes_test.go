package msg

import (
	"bytes"
	"math"
	"math/rand"
	"reflect"
	"testing"

	"scupper/api"
)

// entrySamples, and those below, are sound values of a kind that have, together, something in each field.
func entrySamples() []api.Entry {
	return append(entries(3),
		api.Entry{Index: 1, Term: 1, Kind: api.EntryNone},
		api.Entry{Index: place, Term: place, Kind: api.EntryConf, Delta: api.MaxTerm, Data: wantBytes(someConf)})
}

func msgSamples() []api.Msg {
	return []api.Msg{
		{Kind: api.Append, From: 1, To: 2, Term: 3, Index: 400, LogTerm: 5, Commit: 6, Round: 7, Entries: entrySamples()},
		{Kind: api.Chunk, From: 16, To: 1, Term: math.MaxUint64, OK: true, Conf: someConf, Off: 256, Data: []byte("piece")},
		{Kind: api.Now, From: 2, To: 3},
	}
}

func shotSamples() []api.Shot {
	return []api.Shot{{Conf: someConf}, {Index: 300, Term: 2, Conf: someConf, Data: []byte("what the log comes to")}}
}

func confSamples() []api.Conf {
	return []api.Conf{someConf, {Voters: []int{4}}, {Voters: []int{2, 3}, Learners: []int{1}}}
}

func hardSamples() []api.Hard {
	return []api.Hard{{}, {Term: 5, Vote: 2}, {Term: math.MaxUint64, Vote: 16}}
}

func commandSamples() []api.Command {
	return []api.Command{{Op: api.OpPass}, {Session: 1, Seq: 300, Op: api.OpAcquire, Key: "key", Amount: -5, Span: api.MaxTerm, Lease: 9}}
}

func replySamples() []api.Reply {
	return []api.Reply{{}, {Session: 1, Seq: 300, E: api.ErrQuota, Lease: 5, Amount: -6, Until: 70000}}
}

func askSamples() []api.Ask {
	return []api.Ask{{Look: true, Key: "key"}, {Look: true, Lazy: true, Seq: 9, Key: "\x00"}, {Seq: 300, Cmd: commandSamples()[1]}}
}

func toldSamples() []api.Told {
	return []api.Told{{}, {Seq: 1, Retry: true, Lead: 3}, {Seq: 300, Reply: replySamples()[1], Cap: 10, Lent: -1}}
}

// canonical holds To.. to this: what it reads has just these bytes, and no other.
func (f face[T]) canonical(t *testing.T, b []byte) (read bool) {
	t.Helper()
	x, e := f.from(b)
	if e != api.OK {
		f.isNone(t, "bytes", b)
		return false
	}
	if back, e := f.to(x); !bytes.Equal(back, b) || e != api.OK {
		t.Errorf("To%s of %s is of the bytes %s, %d", f.name, short(b), short(back), e)
	}
	return true
}

// spoiled reads the bytes of x cut off at each place, with something behind them, and with each byte changed to each other one.
func (f face[T]) spoiled(t *testing.T, x T) {
	t.Helper()
	b := wantBytes(x)
	for end := range b {
		f.isNone(t, "what is cut off", b[:end])
	}
	for _, more := range []byte{0, 1, 9, 0xFF} {
		f.isNone(t, "what is too long", append(bytes.Clone(b), more))
	}
	f.isNone(t, "what is there twice", append(bytes.Clone(b), b...))
	for i := range b {
		for c := range 256 {
			other := bytes.Clone(b)
			other[i] = byte(c)
			if f.canonical(t, other) && c != int(b[i]) && same(x, first(f.from(other))) {
				t.Errorf("To%s: %x and %x are one value", f.name, other, b)
			}
		}
	}
}

func first[T any](x T, _ api.Errno) T { return x }

func (f face[T]) spoiledAll(t *testing.T, list []T) {
	t.Helper()
	for _, x := range list {
		f.spoiled(t, x)
	}
}

// P3.2, and what follows: bytes with one cut off or one more are none; no two values have the same bytes, and no value has two.
func TestSpoiled(t *testing.T) {
	entryFace.spoiledAll(t, entrySamples())
	confFace.spoiledAll(t, confSamples())
	hardFace.spoiledAll(t, hardSamples())
	shotFace.spoiledAll(t, shotSamples())
	msgFace.spoiledAll(t, msgSamples())
	commandFace.spoiledAll(t, commandSamples())
	replyFace.spoiledAll(t, replySamples())
	askFace.spoiledAll(t, askSamples())
	toldFace.spoiledAll(t, toldSamples())
}

// P3.2: wrong bytes, written out.
func TestNoneByHand(t *testing.T) {
	huge := []byte{8, 0xFF, 0xFF, 0xFF, 0xFF, 0xFF, 0xFF, 0xFF, 0xFF}
	half := []byte{8, 0x80, 0, 0, 0, 0, 0, 0, 0}
	hardFace.isNone(t, "a byte more", []byte{1, 5, 1, 2, 0})
	hardFace.isNone(t, "a number that could be shorter", []byte{1, 0, 1, 2})
	hardFace.isNone(t, "a number that could be shorter", []byte{2, 0, 5, 1, 2})
	hardFace.isNone(t, "a number of nine bytes", []byte{9, 1, 1, 1, 1, 1, 1, 1, 1, 1, 0})
	hardFace.isNone(t, "a Vote that is no int", append([]byte{0}, huge...))
	hardFace.isNone(t, "a Vote that is no int", append([]byte{0}, half...))
	hardFace.isNone(t, "a Vote with a bit far up", []byte{0, 5, 1, 0, 0, 0, 2})
	confFace.isNone(t, "more voters than bytes", []byte{1, 2, 1, 1, 0})
	for _, n := range [][]byte{huge, half, {8, 1, 0, 0, 0, 0, 0, 0, 0}, {4, 0xFF, 0xFF, 0xFF, 0xFF}, {1, 17}} {
		confFace.isNone(t, "a list too long", append(bytes.Clone(n), 1, 1, 0))
		confFace.isNone(t, "a second list too long", append([]byte{1, 1, 1, 1}, n...))
		commandFace.isNone(t, "a Key too long", append([]byte{0, 0, 1, 1}, n...))
		msgFace.isNone(t, "too many entries", append([]byte{1, 5, 1, 1, 1, 2, 0, 0, 0, 0, 0, 0}, n...))
		entryFace.isNone(t, "Data too long", append([]byte{1, 1, 1, 1, 1, 2, 0}, n...))
	}
	askFace.isNone(t, "Look 2", []byte{1, 2, 0, 0, 0, 0, 0, 0, 0, 0, 0, 0})
	askFace.isNone(t, "Look 256", []byte{2, 1, 0, 0, 0, 0, 0, 0, 0, 0, 0, 0, 0})
	askFace.isNone(t, "Lazy 2", []byte{1, 1, 1, 2, 0, 0, 0, 0, 0, 0, 0, 0, 0})
	askFace.isNone(t, "Look all bits", append(bytes.Clone(huge), make([]byte, 10)...))
	toldFace.isNone(t, "Retry 2", []byte{0, 1, 2, 0, 0, 0, 0, 0, 0, 0, 0, 0})
	msgFace.isNone(t, "OK 3", []byte{1, 1, 1, 1, 1, 2, 0, 0, 0, 0, 0, 1, 3, 0, 0, 0, 0, 0})
	for _, b := range [][]byte{nil, {}, {0}, {9}, {1}} {
		entryFace.isNone(t, "too little", b)
		confFace.isNone(t, "too little", b)
		hardFace.isNone(t, "too little", b)
		shotFace.isNone(t, "too little", b)
		msgFace.isNone(t, "too little", b)
		commandFace.isNone(t, "too little", b)
		replyFace.isNone(t, "too little", b)
		askFace.isNone(t, "too little", b)
		toldFace.isNone(t, "too little", b)
	}
}

// P3.2: bytes that break off within a list, and would be whole if they were read on from their beginning: there the first number would be the length of Data.
func TestNoneThatBeginsAgain(t *testing.T) {
	shotFace.isNone(t, "no number of learners", []byte{1, 6, 1, 2, 1, 1, 1, 1})
	shotFace.isNone(t, "no learner", []byte{1, 8, 1, 2, 1, 1, 1, 1, 1, 1})
	shotFace.isNone(t, "no second learner", []byte{1, 10, 1, 2, 1, 1, 1, 1, 1, 2, 1, 2})
	shotFace.isNone(t, "seventeen learners", []byte{1, 8, 1, 2, 1, 1, 1, 1, 1, 17})
	shotFace.isNone(t, "no Data", []byte{1, 7, 1, 2, 1, 1, 1, 1, 0})
}

// P3.2: of all short texts of a few telling bytes just those are read that a sound value has.
func TestAllShortTexts(t *testing.T) {
	hards, confs := map[string]bool{}, map[string]bool{}
	few := []int{1, 2, 3, 16}
	for n := range uint64(1 << 16) { // a greater term has too many bytes to be among the texts
		for _, vote := range []int{0, 1, 2, 3, 16} {
			hards[string(wantBytes(api.Hard{Term: n, Vote: vote}))] = true
		}
	}
	for _, a := range few {
		confs[string(wantBytes(api.Conf{Voters: []int{a}}))] = true
		for _, b := range few {
			if a < b {
				confs[string(wantBytes(api.Conf{Voters: []int{a, b}}))] = true
			}
			if a != b {
				confs[string(wantBytes(api.Conf{Voters: []int{a}, Learners: []int{b}}))] = true
			}
		}
	}
	texts := [][]byte{nil}
	for at := 0; at < len(texts) && len(texts[at]) < 7; at++ {
		for _, c := range []byte{0, 1, 2, 3, 16, 17} {
			texts = append(texts, append(bytes.Clone(texts[at]), c))
		}
	}
	for _, b := range texts {
		if len(b) <= 4 && hardFace.canonical(t, b) != hards[string(b)] {
			t.Errorf("ToHard of %x: %v", b, !hards[string(b)])
		}
		if confFace.canonical(t, b) != confs[string(b)] {
			t.Errorf("ToConf of %x: %v", b, !confs[string(b)])
		}
	}
}

// drawn are numbers of all lengths, the ends more often than others.
func drawn(r *rand.Rand) uint64 {
	switch r.Intn(8) {
	case 0:
		return 0
	case 1:
		return math.MaxUint64
	}
	return r.Uint64() >> r.Intn(64)
}

func drawnBytes(r *rand.Rand, most int) []byte {
	b := make([]byte, r.Intn(most+1)>>r.Intn(8))
	r.Read(b)
	return b
}

func drawnConf(r *rand.Rand) api.Conf {
	c := api.Conf{}
	one := r.Intn(api.MaxNodes) + 1
	for id := 1; id <= api.MaxNodes; id++ {
		switch n := r.Intn(3); {
		case n == 0 || id == one:
			c.Voters = append(c.Voters, id)
		case n == 1:
			c.Learners = append(c.Learners, id)
		}
	}
	return c
}

func drawnEntry(r *rand.Rand) api.Entry {
	x := api.Entry{Index: r.Uint64()>>(2+r.Intn(60)) + 1, Term: r.Uint64()>>(2+r.Intn(60)) + 1, Kind: r.Intn(3) + 1, Delta: r.Int63n(api.MaxTerm+1) >> r.Intn(41)}
	switch x.Kind {
	case api.EntryData:
		x.Data = drawnBytes(r, 4096)
	case api.EntryConf:
		x.Data = wantBytes(drawnConf(r))
	}
	return x
}

func drawnCommand(r *rand.Rand) api.Command {
	return api.Command{Session: drawn(r), Seq: drawn(r), Op: r.Intn(5) + 1, Key: string(drawnBytes(r, api.MaxKey)), Amount: int64(drawn(r)), Span: int64(drawn(r)), Lease: drawn(r)}
}

func drawnReply(r *rand.Rand) api.Reply {
	return api.Reply{Session: drawn(r), Seq: drawn(r), E: api.Errno(r.Intn(21)), Lease: drawn(r), Amount: int64(drawn(r)), Until: int64(drawn(r))}
}

func drawnMsg(r *rand.Rand) api.Msg {
	x := api.Msg{Kind: r.Intn(9) + 1, From: r.Intn(16) + 1, To: r.Intn(16) + 1, Term: drawn(r), Index: drawn(r), LogTerm: drawn(r), Commit: drawn(r), Round: drawn(r), OK: r.Intn(2) == 0, Off: r.Intn(api.MaxFrame + 1), Data: drawnBytes(r, api.MaxChunk)}
	for range r.Intn(api.MaxBatch + 1) {
		x.Entries = append(x.Entries, drawnEntry(r))
	}
	if x.Kind == api.Chunk {
		x.Conf = drawnConf(r)
	}
	return x
}

func drawnShot(r *rand.Rand) api.Shot {
	x := api.Shot{Conf: drawnConf(r), Data: drawnBytes(r, api.MaxFrame/2)}
	if r.Intn(4) > 0 {
		x.Index, x.Term = r.Uint64()>>(2+r.Intn(60))+1, r.Uint64()>>(2+r.Intn(60))+1
	}
	return x
}

func drawnAsk(r *rand.Rand) api.Ask {
	if r.Intn(2) == 0 {
		return api.Ask{Look: true, Lazy: r.Intn(2) == 0, Seq: drawn(r), Key: string(drawnBytes(r, api.MaxKey))}
	}
	return api.Ask{Seq: drawn(r), Cmd: drawnCommand(r)}
}

func drawnTold(r *rand.Rand) api.Told {
	return api.Told{Seq: drawn(r), Retry: r.Intn(2) == 0, Lead: r.Intn(17), Reply: drawnReply(r), Cap: int64(drawn(r)), Lent: int64(drawn(r))}
}

// P3.1, P3.2: there and back, of values that are drawn; and their bytes with some changed are one value's or none's.
func TestThereAndBack(t *testing.T) {
	r := rand.New(rand.NewSource(1))
	for range 1000 {
		thereAndBack(t, r, entryFace, drawnEntry(r))
		thereAndBack(t, r, confFace, drawnConf(r))
		thereAndBack(t, r, hardFace, api.Hard{Term: drawn(r), Vote: r.Intn(17)})
		thereAndBack(t, r, shotFace, drawnShot(r))
		thereAndBack(t, r, msgFace, drawnMsg(r))
		thereAndBack(t, r, commandFace, drawnCommand(r))
		thereAndBack(t, r, replyFace, drawnReply(r))
		thereAndBack(t, r, askFace, drawnAsk(r))
		thereAndBack(t, r, toldFace, drawnTold(r))
	}
}

func thereAndBack[T any](t *testing.T, r *rand.Rand, f face[T], x T) {
	t.Helper()
	f.isSound(t, "one that is drawn", x)
	b := wantBytes(x)
	f.isNone(t, "one that is cut off", b[:r.Intn(len(b))])
	for range 3 {
		b[r.Intn(len(b))] = byte(r.Intn(20))
		f.canonical(t, b)
	}
}

// roomy is b with spare room behind it, all of it filled with what must stay.
func roomy(b []byte) (part, whole []byte) {
	whole = append(bytes.Clone(b), bytes.Repeat([]byte{0xA5}, 64)...)
	return whole[:len(b)], whole
}

// spoil changes all of b, its spare room too.
func spoil(b []byte) {
	b = b[:cap(b)]
	for i := range b {
		b[i] ^= 0xFF
	}
}

// spoilValue changes all lists within a value, their spare room too.
func spoilValue(v reflect.Value) {
	switch v.Kind() {
	case reflect.Struct:
		for i := range v.NumField() {
			spoilValue(v.Field(i))
		}
	case reflect.Slice:
		v = v.Slice(0, v.Cap())
		for i := range v.Len() {
			spoilValue(v.Index(i))
		}
	case reflect.Uint8, reflect.Uint64:
		if v.CanSet() {
			v.SetUint(v.Uint() ^ 0xFF)
		}
	case reflect.Int, reflect.Int64:
		if v.CanSet() {
			v.SetInt(v.Int() ^ 0xFF)
		}
	}
}

// alone holds both calls to R4, of values that fresh makes anew each time.
func (f face[T]) alone(t *testing.T, fresh func() T) {
	t.Helper()
	x := fresh()
	b, _ := f.to(x)
	want := bytes.Clone(b)
	if !same(x, fresh()) {
		t.Errorf("%s changed what it was handed", f.name)
	}
	other, _ := f.to(x)
	spoil(other)
	if !bytes.Equal(b, want) || !same(x, fresh()) {
		t.Errorf("%s shares its answer", f.name)
	}
	spoilValue(reflect.ValueOf(x))
	if !bytes.Equal(b, want) {
		t.Errorf("%s shares its answer with what it was handed", f.name)
	}
	part, whole := roomy(want)
	before := bytes.Clone(whole)
	one, _ := f.from(part)
	two, _ := f.from(part)
	if !bytes.Equal(whole, before) {
		t.Errorf("To%s changed what it was handed", f.name)
	}
	spoilValue(reflect.ValueOf(two))
	if !bytes.Equal(whole, before) || !same(one, fresh()) {
		t.Errorf("To%s shares its answer", f.name)
	}
	spoil(whole)
	if !same(one, fresh()) {
		t.Errorf("To%s shares its answer with what it was handed", f.name)
	}
}

// R4: nothing is shared with, or changed of, what is handed in; nothing is shared by two answers.
func TestNothingIsShared(t *testing.T) {
	conf := func() api.Conf { return api.Conf{Voters: []int{1, 4, 5}, Learners: []int{2, 3}} }
	list := func() []api.Entry {
		return append(entries(3), api.Entry{Index: 4, Term: 9, Kind: api.EntryConf, Data: wantBytes(conf())})
	}
	entryFace.alone(t, func() api.Entry { return list()[2] })
	entryFace.alone(t, func() api.Entry { return list()[3] })
	confFace.alone(t, conf)
	hardFace.alone(t, func() api.Hard { return api.Hard{Term: 5, Vote: 2} })
	shotFace.alone(t, func() api.Shot { return api.Shot{Index: 3, Term: 2, Conf: conf(), Data: []byte("data")} })
	msgFace.alone(t, func() api.Msg {
		return api.Msg{Kind: api.Chunk, From: 1, To: 2, Entries: list(), Conf: conf(), Data: []byte("data")}
	})
	commandFace.alone(t, func() api.Command { return commandSamples()[1] })
	replyFace.alone(t, func() api.Reply { return replySamples()[1] })
	askFace.alone(t, func() api.Ask { return askSamples()[1] })
	toldFace.alone(t, func() api.Told { return toldSamples()[2] })
}

// R4: no two lists of one answer share memory: what one is changed or lengthened by is not seen in another.
func TestListsOfOneAnswerAreApart(t *testing.T) {
	conf := wantBytes(someConf)
	x := api.Msg{Kind: api.Chunk, From: 1, To: 2, Conf: someConf, Data: conf, Entries: []api.Entry{
		{Index: 1, Term: 1, Kind: api.EntryConf, Data: conf},
		{Index: 2, Term: 1, Kind: api.EntryConf, Data: conf},
	}}
	m, e := ToMsg(wantBytes(x))
	if e != api.OK || len(m.Entries) != 2 {
		t.Fatalf("ToMsg: %d, %d entries", e, len(m.Entries))
	}
	spoil(m.Entries[0].Data)
	for i := range m.Conf.Voters[:cap(m.Conf.Voters)] {
		m.Conf.Voters[:cap(m.Conf.Voters)][i] = -7
	}
	if !bytes.Equal(m.Entries[1].Data, conf) || !bytes.Equal(m.Data, conf) || !reflect.DeepEqual(m.Conf.Learners, someConf.Learners) {
		t.Errorf("lists of one answer are shared: %x, %x, %v", m.Entries[1].Data, m.Data, m.Conf.Learners)
	}
}

// R5: the same calls have the same answers, whatever was called between.
func TestNothingIsKept(t *testing.T) {
	b := wantBytes(msgSamples()[0])
	first, _ := ToMsg(b)
	ToMsg(b[:9])
	Msg(api.Msg{})
	ToMsg(wantBytes(msgSamples()[1]))
	second, e := ToMsg(b)
	if !reflect.DeepEqual(first, second) || e != api.OK {
		t.Errorf("ToMsg: %+v, then %+v, %d", first, second, e)
	}
}
