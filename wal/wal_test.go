package wal

import (
	"bytes"
	"math"
	"slices"
	"strconv"
	"strings"
	"testing"

	"scupper/api"
	"scupper/disk"
)

// on is an empty disk with so much room, and the log on it.
func on(t *testing.T, room int) (*disk.Disk, *Log) {
	t.Helper()
	d, e := disk.New(room)
	if e != api.OK {
		t.Fatalf("disk.New(%d): %d", room, e)
	}
	return d, opened(t, d)
}

// opened is the log on a disk.
func opened(t *testing.T, d *disk.Disk) *Log {
	t.Helper()
	l, e := Open(d)
	if l == nil || e != api.OK {
		t.Fatalf("Open: %v, %d", l, e)
	}
	return l
}

// fallen is the log that a disk has, if all that is unsure is lost; the disk itself stays as it is.
func fallen(t *testing.T, d *disk.Disk) *Log {
	t.Helper()
	d = d.Copy()
	d.Fall(0, -1)
	return opened(t, d)
}

// want holds an error against the one that must be.
func want(t *testing.T, what string, got, e api.Errno) {
	t.Helper()
	if got != e {
		t.Errorf("%s: %d; want %d", what, got, e)
	}
}

// do does what must go well.
func do(t *testing.T, list ...api.Errno) {
	t.Helper()
	for i, e := range list {
		if e != api.OK {
			t.Fatalf("step %d: %d; want OK", i, e)
		}
	}
}

// state is what a log has, as the chapter tells it.
type state struct {
	first uint64
	list  []string
}

func (s state) next() uint64 { return s.first + uint64(len(s.list)) }

// upTo is the state with its first n records.
func (s state) upTo(n int) state { return state{s.first, s.list[:n:n]} }

func (s state) equal(o state) bool { return s.first == o.first && slices.Equal(s.list, o.list) }

// bytes is how many bytes the records have together.
func (s state) bytes() int { return len(strings.Join(s.list, "")) }

func (s state) String() string {
	var list []string
	for _, r := range s.list {
		list = append(list, r[:min(len(r), 3)]+"/"+strconv.Itoa(len(r)))
	}
	return strconv.FormatUint(s.first, 10) + ":" + strings.Join(list, " ")
}

// stateOf reads all that a log has, and what is around it.
func stateOf(t *testing.T, l *Log) state {
	t.Helper()
	s := state{first: l.First()}
	for i := l.First(); i < l.Next(); i++ {
		data, e := l.Read(i)
		if e != api.OK {
			t.Fatalf("Read(%d): %d", i, e)
		}
		s.list = append(s.list, string(data))
	}
	for _, i := range []uint64{0, l.First() - 1} {
		if data, e := l.Read(i); i < l.First() && (data != nil || e != api.ErrOld) {
			t.Errorf("Read(%d) ahead of First %d: %x, %d", i, l.First(), data, e)
		}
	}
	for _, i := range []uint64{l.Next(), l.Next() + 1, math.MaxUint64} {
		if data, e := l.Read(i); i >= l.Next() && (data != nil || e != api.ErrNone) {
			t.Errorf("Read(%d) behind Next %d: %x, %d", i, l.Next(), data, e)
		}
	}
	return s
}

// has holds a log against what it must have.
func has(t *testing.T, what string, l *Log, first uint64, list ...string) {
	t.Helper()
	if got, s := stateOf(t, l), (state{first, list}); !got.equal(s) {
		t.Errorf("%s: %v; want %v", what, got, s)
	}
}

// sized is a record of n bytes that is not like those of another mark.
func sized(mark byte, n int) []byte { return bytes.Repeat([]byte{mark}, n) }

// numbers are n records of so many bytes, the k-th of which begins with k + 1.
func numbers(n, size int) [][]byte {
	var list [][]byte
	for i := range n {
		b := make([]byte, size)
		copy(b, strconv.Itoa(i+1)+".")
		list = append(list, b)
	}
	return list
}

func texts(list [][]byte) []string {
	var out []string
	for _, b := range list {
		out = append(out, string(b))
	}
	return out
}

// The chapter's example.
func TestExample(t *testing.T) {
	d, l := on(t, 10000)
	do(t, l.Append([]byte("a"), []byte("b")), l.Sync(), l.Append([]byte("c")))
	has(t, "three", l, 1, "a", "b", "c")
	do(t, d.Fall(0, -1))
	l = opened(t, d)
	has(t, "behind a fall", l, 1, "a", "b")
	do(t, l.Cut(2))
	has(t, "Cut", l, 1, "a")
	do(t, d.Fall(0, -1))
	l = opened(t, d)
	has(t, "Cut, behind a fall", l, 1, "a")
	do(t, l.Reset(9))
	has(t, "Reset", l, 9)
	has(t, "Reset, behind a fall", fallen(t, d), 9)
}

// P5.1: a disk without a log, and one with other files.
func TestOpenNothing(t *testing.T) {
	d, l := on(t, 0)
	has(t, "an empty disk", l, 1)
	if len(d.Names()) > 0 || len(d.Unsure()) > 0 {
		t.Error("Open of nothing changed the disk")
	}
	want(t, "no room", l.Append([]byte{}), api.ErrFull)
	do(t, l.Append(), l.Sync(), l.Cut(1), l.Drop(1), l.Drop(0), l.Append())
	has(t, "calls that do nothing", l, 1)
	if len(d.Names()) > 0 || len(d.Unsure()) > 0 {
		t.Error("calls that do nothing changed the disk")
	}
	do(t, d.Room(1000), d.Put("v.1", 0, []byte("v")), d.Put("w", 0, []byte("w")), d.Put("wal.0.1.b", 0, []byte("x")), d.Put(".w.0.1", 0, nil))
	l = opened(t, d)
	has(t, "other files", l, 1)
	do(t, l.Append([]byte("a")), l.Sync(), l.Reset(7), l.Drop(7))
	for name, text := range map[string]string{"v.1": "v", "w": "w", "wal.0.1.b": "x", ".w.0.1": ""} {
		if data, e := d.Read(name); string(data) != text || e != api.OK {
			t.Errorf("file %q: %q, %d", name, data, e)
		}
	}
}

// P5.1: records of all sizes, also those that are not far from the greatest.
func TestAppendSizes(t *testing.T) {
	d, l := on(t, api.MaxDisk)
	var list []string
	for i, n := range []int{0, 1, 0, 0, 511, 512, 513, 3, 65519, api.MaxFrame - 16, 0, 1000, 7} {
		do(t, l.Append(sized(byte(i), n)))
		list = append(list, string(sized(byte(i), n)))
	}
	has(t, "one by one", l, 1, list...)
	has(t, "found", opened(t, d), 1, list...)
	do(t, l.Sync())
	has(t, "behind a fall", fallen(t, d), 1, list...)
	do(t, l.Append(sized('x', 9), nil, sized('y', api.MaxFrame-16), sized('z', 600), []byte{}))
	list = append(list, string(sized('x', 9)), "", string(sized('y', api.MaxFrame-16)), string(sized('z', 600)), "")
	has(t, "many at once", l, 1, list...)
	has(t, "found", opened(t, d), 1, list...)
}

// P5.1: a record that is too large is refused, and all with it, ahead of an error of the disk.
func TestAppendTooLarge(t *testing.T) {
	for _, room := range []int{0, 50, api.MaxDisk} {
		d, l := on(t, room)
		for _, n := range []int{api.MaxFrame - 15, api.MaxFrame, api.MaxFrame + 1, 1 << 20} {
			want(t, "too large", l.Append(sized('x', n)), api.ErrLarge)
			want(t, "the first one too large", l.Append(sized('x', n), []byte("a")), api.ErrLarge)
			want(t, "the last one too large", l.Append([]byte("a"), sized('y', 100), sized('x', n)), api.ErrLarge)
		}
		has(t, "refused", l, 1)
		if d.Used() > 0 || len(d.Names()) > 0 {
			t.Error("refused, and there is something")
		}
		do(t, d.Fuse(1))
		d.Sync()
		want(t, "ahead of ErrDown", l.Append(sized('x', api.MaxFrame-15)), api.ErrLarge)
		want(t, "ErrDown", l.Append([]byte("a")), api.ErrDown)
		want(t, "behind ErrDown", l.Append(sized('x', api.MaxFrame-15)), api.ErrDown)
	}
}

// P5.1: a disk without room refuses each record, also one of no bytes; all of a call or none.
func TestAppendFull(t *testing.T) {
	for _, before := range []int{0, 1, 5, 600} {
		d, l := on(t, 100000)
		if before > 0 {
			do(t, l.Append(sized('b', before)))
		}
		was := stateOf(t, l)
		for n := range 5 {
			for _, size := range []int{0, 1, 300} {
				list := slices.Repeat([][]byte{sized('x', size)}, n)
				for room := d.Used(); room < d.Used()+n*(size+1); room += max(1, size/3) {
					do(t, d.Room(room))
					want(t, "Append", l.Append(list...), api.ErrFull)
					has(t, "refused", l, was.first, was.list...)
				}
			}
		}
		do(t, l.Append(), d.Room(100000), l.Append(sized('y', 700), nil))
		has(t, "it goes on", l, 1, append(was.list, string(sized('y', 700)), "")...)
		has(t, "it goes on, found", opened(t, d), 1, append(was.list, string(sized('y', 700)), "")...)
	}
}

// P5.1: Read, where there is none; numbers at their ends.
func TestReadWhere(t *testing.T) {
	_, l := on(t, 10000)
	has(t, "nothing", l, 1)
	do(t, l.Reset(math.MaxUint64-2))
	has(t, "at the end of numbers", l, math.MaxUint64-2)
	want(t, "three, where two have numbers", l.Append(nil, nil, nil), api.ErrLarge)
	do(t, l.Append([]byte("a"), []byte("b")))
	has(t, "the last numbers", l, math.MaxUint64-2, "a", "b")
	want(t, "one more", l.Append(nil), api.ErrLarge)
	want(t, "Cut of what is gone", l.Cut(5), api.ErrOld)
	do(t, l.Append(), l.Cut(math.MaxUint64), l.Drop(math.MaxUint64-2), l.Cut(math.MaxUint64-1))
	has(t, "Cut", l, math.MaxUint64-2, "a")
	do(t, l.Append([]byte("c")), l.Drop(math.MaxUint64), l.Reset(math.MaxUint64))
	has(t, "Reset to the last number", l, math.MaxUint64)
	want(t, "none is left", l.Append(nil), api.ErrLarge)
	do(t, l.Reset(1), l.Append([]byte("a")))
	has(t, "from the beginning", l, 1, "a")
}

// P5.1: Sync makes sure all that was appended, and nothing else does; a call that changes nothing does not harm.
func TestSync(t *testing.T) {
	d, l := on(t, 100000)
	var list []string
	for i := range 40 {
		r := sized(byte(i), i*37%300)
		do(t, l.Append(r))
		has(t, "not sure", fallen(t, d), 1, list...)
		do(t, l.Sync())
		list = append(list, string(r))
		has(t, "sure", fallen(t, d), 1, list...)
		if i%3 == 0 {
			do(t, l.Sync(), l.Append())
		}
	}
}

// P5.2: Cut at each place, of one segment and of many, and what comes behind it.
func TestCut(t *testing.T) {
	for _, size := range []int{0, 5, 200, 600} {
		all := numbers(20, max(size, 4))
		for from := uint64(1); from <= 21; from++ {
			d, l := on(t, 100000)
			for _, r := range all {
				do(t, l.Append(r))
			}
			want(t, "Cut of what never was", l.Cut(0), api.ErrOld)
			want(t, "Cut behind the end", l.Cut(22), api.ErrGap)
			want(t, "Cut far behind the end", l.Cut(math.MaxUint64), api.ErrGap)
			has(t, "refused", l, 1, texts(all)...)
			do(t, l.Cut(from))
			left := texts(all)[:from-1]
			has(t, "Cut", l, 1, left...)
			has(t, "Cut, behind a fall", fallen(t, d), 1, left...)
			do(t, l.Append([]byte("new")), l.Append([]byte("er")))
			has(t, "Cut, and Append", l, 1, append(left, "new", "er")...)
			has(t, "Cut, and Append, found", opened(t, d), 1, append(left, "new", "er")...)
			has(t, "Cut, and Append, behind a fall", fallen(t, d), 1, left...)
			do(t, l.Sync(), l.Cut(l.Next()))
			has(t, "Cut, and Append, and Sync", fallen(t, d), 1, append(left, "new", "er")...)
		}
	}
}

// P5.2: with OK all is sure, what was ahead too, also where nothing goes.
func TestAllIsSure(t *testing.T) {
	for what, call := range map[string]func(l *Log) api.Errno{
		"Cut":     func(l *Log) api.Errno { return l.Cut(l.Next()) },
		"Drop":    func(l *Log) api.Errno { return l.Drop(l.First()) },
		"Drop, 0": func(l *Log) api.Errno { return l.Drop(0) },
		"Sync":    func(l *Log) api.Errno { return l.Sync() },
	} {
		d, l := on(t, 100000)
		do(t, d.Put("x", 0, []byte("x")), call(l))
		if len(d.Unsure()) > 0 {
			t.Errorf("%s of nothing: something is unsure", what)
		}
		for _, r := range numbers(9, 200) {
			do(t, l.Append(r))
		}
		do(t, call(l))
		has(t, what, fallen(t, d), 1, texts(numbers(9, 200))...)
		do(t, l.Append([]byte("a")), l.Cut(10), l.Append([]byte("b")), call(l))
		has(t, what, fallen(t, d), 1, append(texts(numbers(9, 200)), "b")...)
		if len(d.Unsure()) > 0 {
			t.Errorf("%s: something is unsure", what)
		}
	}
}

// leaves holds what a Drop(to) left against what was there: some first ones went, but not more than may, and so many that not too much is left.
func leaves(t *testing.T, was, is state, to uint64) {
	t.Helper()
	if is.first < was.first || is.first > max(to, was.first) || !is.equal(state{is.first, was.list[is.first-was.first:]}) {
		t.Errorf("Drop(%d) of %v: %v", to, was, is)
		return
	}
	left := 0
	for i := is.first; i < to; i++ {
		left += len(is.list[i-is.first])
	}
	long := slices.ContainsFunc(was.list, func(r string) bool { return len(r) > api.MaxSegment })
	if left >= 8*api.MaxSegment && !long {
		t.Errorf("Drop(%d) of %v: %d bytes below are left", to, was, left)
	}
}

// P5.2: Drop at each place, where records came one by one and where they came at once.
func TestDrop(t *testing.T) {
	for _, size := range []int{4, 100, 512} {
		for _, batch := range []int{1, 3, 60} {
			all := numbers(60, size)
			for to := uint64(0); to <= 61; to += 1 + to%3 {
				d, l := on(t, 100000)
				for list := range slices.Chunk(all, batch) {
					do(t, l.Append(list...))
				}
				was := stateOf(t, l)
				want(t, "Drop behind the end", l.Drop(62), api.ErrGap)
				want(t, "Drop far behind the end", l.Drop(math.MaxUint64), api.ErrGap)
				has(t, "refused", l, 1, was.list...)
				do(t, l.Drop(to))
				is := stateOf(t, l)
				leaves(t, was, is, to)
				has(t, "behind a fall", fallen(t, d), is.first, is.list...)
				if is.first > 1 {
					want(t, "Cut of what is gone", l.Cut(is.first-1), api.ErrOld)
				}
				do(t, l.Drop(to))
				leaves(t, is, stateOf(t, l), to)
				do(t, l.Append([]byte("new")), l.Sync())
				is = stateOf(t, l)
				has(t, "and Append, behind a fall", fallen(t, d), is.first, is.list...)
				leaves(t, was, is.upTo(len(is.list)-1), to)
			}
		}
	}
}

// P5.2: Drop of all leaves a log that goes on with the same number, and takes all bytes off the disk.
func TestDropAll(t *testing.T) {
	for _, size := range []int{4, 600, 30000} {
		d, l := on(t, 1000000)
		do(t, l.Append(numbers(5, size)...), l.Append(numbers(5, size)...))
		for range 3 {
			do(t, d.Room(0), l.Drop(l.Next()))
			has(t, "Drop of all", l, l.Next())
			if d.Used() > 0 {
				t.Errorf("%d bytes are left", d.Used())
			}
			do(t, d.Room(100000), l.Append([]byte("a")))
		}
		has(t, "Append behind it", opened(t, d), 13, "a")
	}
}

// P5.2: whole segments go without any room.
func TestDropWithoutRoom(t *testing.T) {
	d, l := on(t, 100000)
	for _, r := range numbers(100, 100) {
		do(t, l.Append(r))
	}
	do(t, l.Sync(), d.Room(0))
	for to := uint64(1); to <= 100; to++ {
		was := stateOf(t, l)
		do(t, l.Drop(to))
		leaves(t, was, stateOf(t, l), to)
		if left := to - l.First(); left > 20 {
			t.Errorf("Drop(%d) left %d", to, left)
		}
	}
	do(t, l.Cut(100), l.Reset(5))
	has(t, "Reset without room", fallen(t, d), 5)
}

// P5.2, P5.3: a Drop that has to copy, and has no room for it: the log is as it was, and goes on.
func TestDropFull(t *testing.T) {
	d, l := on(t, 100000)
	do(t, l.Append(numbers(100, 100)...), d.Room(d.Used()+100))
	was := stateOf(t, l)
	want(t, "Drop", l.Drop(51), api.ErrFull)
	has(t, "refused", l, 1, was.list...)
	has(t, "refused, behind a fall", fallen(t, d), 1, was.list...)
	do(t, l.Append([]byte("a")), l.Drop(30))
	is := append(was.list, "a")
	has(t, "it goes on", l, 1, is...)
	do(t, l.Drop(101))
	has(t, "little is left", fallen(t, d), 101, "a")
}

// P5.2: Reset to any number but 0.
func TestReset(t *testing.T) {
	for _, n := range []int{0, 1, 9} {
		for _, next := range []uint64{1, 2, 5, 9, 10, 11, 1 << 40, math.MaxUint64 - 1, math.MaxUint64} {
			d, l := on(t, 100000)
			for _, r := range numbers(n, 300) {
				do(t, l.Append(r))
			}
			want(t, "Reset(0)", l.Reset(0), api.ErrArg)
			has(t, "refused", l, 1, texts(numbers(n, 300))...)
			do(t, d.Room(0), l.Reset(next))
			has(t, "Reset", l, next)
			has(t, "Reset, behind a fall", fallen(t, d), next)
			if d.Used() > 0 {
				t.Errorf("Reset: %d bytes are left", d.Used())
			}
			do(t, d.Room(1000), l.Reset(next), l.Reset(next))
			if next == math.MaxUint64 {
				continue
			}
			do(t, l.Append([]byte("a")))
			has(t, "Reset, and Append", opened(t, d), next, "a")
			do(t, l.Sync(), l.Reset(3), l.Append([]byte("b")))
			has(t, "Reset again", opened(t, d), 3, "b")
			has(t, "Reset again, behind a fall", fallen(t, d), 3)
		}
	}
}

// Words: a log's files begin with w and a point; each call makes at most one more; behind a Sync they do not take too much.
func TestFiles(t *testing.T) {
	d, l := on(t, api.MaxDisk)
	do(t, d.Put("x", 0, []byte("xyz")))
	files := 0
	for i, call := range []func() api.Errno{
		func() api.Errno { return l.Append(numbers(100, 1)...) },
		func() api.Errno { return l.Append(numbers(500, 100)...) },
		func() api.Errno { return l.Append(numbers(500, 600)...) },
		func() api.Errno { return l.Append() },
		func() api.Errno { return l.Drop(90) },
		func() api.Errno { return l.Drop(550) },
		func() api.Errno { return l.Drop(700) },
		func() api.Errno { return l.Cut(1000) },
		func() api.Errno { return l.Append(nil, nil, nil) },
		func() api.Errno { return l.Cut(700) },
		func() api.Errno { return l.Drop(700) },
		func() api.Errno { return l.Reset(1) },
		func() api.Errno { return l.Append(slices.Repeat([][]byte{nil}, 1000)...) },
		func() api.Errno { return l.Cut(1) },
	} {
		do(t, call())
		names := d.Names()
		if len(names) > files+1+1 {
			t.Errorf("call %d made more than one file: %v", i, names)
		}
		files = len(names) - 1
		for _, name := range names {
			if name != "x" && !strings.HasPrefix(name, "w.") {
				t.Errorf("call %d made a file %q", i, name)
			}
		}
		do(t, l.Sync())
		slim(t, d, l)
	}
}

// slim holds what the log's files take against the chapter's bound.
func slim(t *testing.T, d *disk.Disk, l *Log) {
	t.Helper()
	used, s := 0, stateOf(t, l)
	for _, name := range d.Names() {
		if data, _ := d.Read(name); strings.HasPrefix(name, "w.") {
			used += len(data)
		}
	}
	if most := 64*(len(s.list)+4) + 2*s.bytes(); used > most {
		t.Errorf("%v takes %d bytes; at most %d", s, used, most)
	}
}

// A log never takes all files that a disk may have: the rest is left to others, and to Drop and Reset.
func TestManySegments(t *testing.T) {
	d, l := on(t, api.MaxDisk)
	for i := range 5000 {
		do(t, l.Append(sized(byte(i), 520)))
	}
	if n := len(d.Names()); n > api.MaxFiles/2 {
		t.Errorf("%d files", n)
	}
	do(t, l.Drop(4900))
	if l.First() != 4900 {
		t.Errorf("Drop(4900): First is %d", l.First())
	}
	for i := uint64(4900); i < 5001; i++ {
		if data, e := l.Read(i); e != api.OK || !bytes.Equal(data, sized(byte(i-1), 520)) {
			t.Errorf("Read(%d): %d", i, e)
		}
	}
	slim(t, d, l)
}

// The disk's other errors: there may be no file more.
func TestTooManyFiles(t *testing.T) {
	d, l := on(t, 100000)
	do(t, l.Append([]byte("a")))
	for i := range api.MaxFiles - 1 {
		do(t, d.Put("x"+strconv.Itoa(i), 0, nil))
	}
	want(t, "Reset", l.Reset(5), api.ErrLarge)
	has(t, "refused", l, 1, "a")
	do(t, l.Append(sized('b', 600)))
	want(t, "Append to a new segment", l.Append([]byte("c")), api.ErrLarge)
	want(t, "Drop", l.Drop(3), api.ErrLarge)
	has(t, "refused", l, 1, "a", string(sized('b', 600)))
	do(t, d.Remove("x0"), l.Append([]byte("c")), d.Remove("x1"), l.Drop(3), l.Cut(3))
	has(t, "it goes on", opened(t, d), 3)
}

// P5.4: a nil log, one that nobody opened, a nil disk.
func TestNil(t *testing.T) {
	if l, e := Open(nil); l != nil || e != api.ErrArg {
		t.Errorf("Open(nil): %v, %d", l, e)
	}
	for _, l := range []*Log{nil, {}} {
		if l.First() != 0 || l.Next() != 0 {
			t.Errorf("First %d, Next %d; want 0, 0", l.First(), l.Next())
		}
		for i := range uint64(3) {
			if data, e := l.Read(i); data != nil || e != api.ErrArg {
				t.Errorf("Read(%d): %x, %d", i, data, e)
			}
			want(t, "Cut", l.Cut(i), api.ErrArg)
			want(t, "Drop", l.Drop(i), api.ErrArg)
			want(t, "Reset", l.Reset(i), api.ErrArg)
		}
		want(t, "Append", l.Append(), api.ErrArg)
		want(t, "Append", l.Append(sized('x', api.MaxFrame), nil), api.ErrArg)
		want(t, "Sync", l.Sync(), api.ErrArg)
	}
}

// isDead holds a log against one that was answered with ErrDown.
func isDead(t *testing.T, what string, l *Log, first, next uint64) {
	t.Helper()
	if l.First() != first || l.Next() != next {
		t.Errorf("%s: First %d, Next %d; want %d, %d", what, l.First(), l.Next(), first, next)
	}
	for _, i := range []uint64{0, first, next, next + 1, math.MaxUint64} {
		if data, e := l.Read(i); data != nil || e != api.ErrDown {
			t.Errorf("%s: Read(%d): %x, %d", what, i, data, e)
		}
		want(t, what+": Cut", l.Cut(i), api.ErrDown)
		want(t, what+": Drop", l.Drop(i), api.ErrDown)
		want(t, what+": Reset", l.Reset(i), api.ErrDown)
	}
	want(t, what+": Append", l.Append(), api.ErrDown)
	want(t, what+": Append", l.Append([]byte("a"), sized('x', api.MaxFrame)), api.ErrDown)
	want(t, what+": Sync", l.Sync(), api.ErrDown)
}

// P5.4: behind ErrDown of any call a log stays down, also when the disk is up again.
func TestDead(t *testing.T) {
	for what, call := range map[string]func(l *Log) api.Errno{
		"Append":    func(l *Log) api.Errno { return l.Append(nil) },
		"Append, 0": func(l *Log) api.Errno { return l.Append() },
		"Sync":      func(l *Log) api.Errno { return l.Sync() },
		"Cut":       func(l *Log) api.Errno { return l.Cut(2) },
		"Cut, none": func(l *Log) api.Errno { return l.Cut(4) },
		"Drop":      func(l *Log) api.Errno { return l.Drop(3) },
		"Drop, 0":   func(l *Log) api.Errno { return l.Drop(0) },
		"Reset":     func(l *Log) api.Errno { return l.Reset(9) },
		"Read":      func(l *Log) api.Errno { _, e := l.Read(2); return e },
	} {
		d, l := on(t, 10000)
		do(t, l.Append([]byte("a"), sized('b', 600)), l.Append([]byte("c")), d.Fuse(1))
		want(t, "Sync of the disk", d.Sync(), api.ErrDown)
		want(t, what, call(l), api.ErrDown)
		isDead(t, what, l, 1, 4)
		do(t, d.Fall(math.MaxUint64, -1))
		isDead(t, what+", behind a fall", l, 1, 4)
		has(t, what, opened(t, d), 1, "a", string(sized('b', 600)), "c")
		isDead(t, what+", behind Open", l, 1, 4)
	}
}

// P5.1: Open of a disk that is down, or that goes down while it mends.
func TestOpenDown(t *testing.T) {
	d, l := on(t, 10000)
	do(t, l.Append(sized('a', 600)), l.Sync(), l.Append([]byte("b")), l.Append(sized('c', 600)), l.Append([]byte("d")), d.Fuse(1))
	want(t, "Sync", l.Sync(), api.ErrDown)
	if l, e := Open(d); l != nil || e != api.ErrDown {
		t.Errorf("Open of a disk that is down: %v, %d", l, e)
	}
	// The end of the second file, and the third one, are there; what was between is lost.
	do(t, d.Fall(0b110, -1))
	for n := 1; ; n++ {
		c := d.Copy()
		do(t, c.Fuse(n))
		l, e := Open(c)
		if e == api.OK {
			has(t, "Open", l, 1, string(sized('a', 600)))
			if n < 4 {
				t.Errorf("%d changes mended all; want 3", n-1)
			}
			return
		}
		if l != nil || e != api.ErrDown {
			t.Errorf("Open: %v, %d", l, e)
		}
		do(t, c.Fall(uint64(n), -1))
		has(t, "as if it had not been called", opened(t, c), 1, string(sized('a', 600)))
	}
}

// R4: what is handed in is neither changed nor kept, and what is answered is not shared.
func TestNothingIsShared(t *testing.T) {
	d, l := on(t, 10000)
	room := []byte("abcdef")
	list := [][]byte{room[:2:4], room[1:3], nil}
	do(t, l.Append(list[:2]...))
	if string(room) != "abcdef" || list[2] != nil {
		t.Errorf("Append changed what was handed in: %q", room)
	}
	copy(room, "XXXXXX")
	list[0], list[1] = nil, nil
	has(t, "kept", l, 1, "ab", "bc")
	one, _ := l.Read(1)
	copy(one, "YY")
	_ = append(one, 'Z')
	two, _ := l.Read(1)
	if string(two) != "ab" {
		t.Errorf("Read(1): %q", two)
	}
	do(t, l.Sync())
	has(t, "on the disk", fallen(t, d), 1, "ab", "bc")
}

// R1: files that no log made are no log; Open takes them away, and no call panics.
func TestForeignFiles(t *testing.T) {
	frame := []byte{0, 0, 0, 0, 0x21, 0x44, 0xdf, 0x1c}
	names := []string{"w.", "w..", "w...", "w.1", "w.0.1", "w.0.0", "w.0.0.b", "w.0.01.b", "w.00.1.b", "w.0.1.c", "w.0.1.b.", "w.0.1.b.b", "w.0.1.", "w.x.y.z",
		"w.zzzzzzzzzzzzzz.1.b", "w.0.zzzzzzzzzzzzzzz.b", "w.0.3w5e11264sgsf", "w." + strings.Repeat("9", 30)}
	d, _ := on(t, 10000)
	for _, name := range names {
		do(t, d.Put(name, 0, frame))
	}
	l := opened(t, d)
	has(t, "foreign files", l, 1)
	if len(d.Names()) > 0 || len(d.Unsure()) > 0 {
		t.Errorf("left: %v", d.Names())
	}
	do(t, d.Put("w.3w5e11264sgsf.3w5e11264sgse.b", 0, slices.Repeat(frame, 3)), d.Put("w.1.1.b", 0, frame))
	l = opened(t, d)
	has(t, "the greatest numbers", l, math.MaxUint64-1, "")
	do(t, l.Reset(4), l.Append(nil))
	has(t, "Reset", l, 4, "")
	d, l = on(t, 10000)
	do(t, l.Append(nil, nil), d.Put("w.1.3", 0, frame), d.Put("w.0.2", 0, frame), d.Put("w.0.4", 0, frame))
	has(t, "files that do not follow", opened(t, d), 1, "", "")
}

// R1: a disk that somebody else changes under the log: calls answer something, and end.
func TestChangedUnderneath(t *testing.T) {
	for what, spoil := range map[string]func(d *disk.Disk){
		"fallen":  func(d *disk.Disk) { d.Fall(0, -1) },
		"removed": func(d *disk.Disk) { slices.Values(d.Names())(func(name string) bool { d.Remove(name); return true }) },
		"cut":     func(d *disk.Disk) { slices.Values(d.Names())(func(name string) bool { d.Cut(name, 3); return true }) },
		"put": func(d *disk.Disk) {
			slices.Values(d.Names())(func(name string) bool { d.Put(name, 0, slices.Repeat([]byte{255}, 5000)); return true })
		},
	} {
		for _, to := range []uint64{1, 2, 30, 60, 61} {
			d, l := on(t, 100000)
			do(t, l.Append(numbers(50, 200)...), l.Append(numbers(10, 200)...))
			spoil(d)
			for i := range uint64(70) {
				if data, e := l.Read(i); e != api.OK && data != nil {
					t.Errorf("%s: Read(%d): %x, %d", what, i, data, e)
				}
			}
			l.Drop(to)
			l.Append([]byte("a"))
			l.Cut(to)
			l.Sync()
			l.Reset(to)
			opened(t, d)
		}
	}
}
