package slot

import (
	"bytes"
	"math"
	"slices"
	"strconv"
	"strings"
	"testing"

	"scupper/api"
	"scupper/codec"
	"scupper/disk"
	"scupper/wal"
)

// on is an empty disk with so much room, and a slot on it.
func on(t *testing.T, room int) (*disk.Disk, *Slot) {
	t.Helper()
	d, e := disk.New(room)
	if e != api.OK {
		t.Fatalf("disk.New(%d): %d", room, e)
	}
	return d, opened(t, d)
}

// opened is the slot "s" of a disk.
func opened(t *testing.T, d *disk.Disk) *Slot { return named(t, d, "s") }

// named is the slot of that name of a disk.
func named(t *testing.T, d *disk.Disk, name string) *Slot {
	t.Helper()
	s, e := Open(d, name)
	if s == nil || e != api.OK {
		t.Fatalf("Open of %q: %v, %d", name, s, e)
	}
	return s
}

// fallen is the slot "s" that a disk has, if all that is unsure is lost; the disk itself stays as it is.
func fallen(t *testing.T, d *disk.Disk) *Slot {
	t.Helper()
	d = d.Copy()
	do(t, d.Fall(0, -1))
	return opened(t, d)
}

// want holds an error against the one that must be.
func want(t *testing.T, what string, got, e api.Errno) {
	t.Helper()
	if got != e {
		t.Errorf("%s: %d; want %d", what, got, e)
	}
}

// do does what must go well.
func do(t *testing.T, list ...api.Errno) {
	t.Helper()
	for i, e := range list {
		if e != api.OK {
			t.Fatalf("step %d: %d; want OK", i, e)
		}
	}
}

// short is a value in few words.
func short(v string) string { return strconv.Quote(v[:min(len(v), 6)]) + "/" + strconv.Itoa(len(v)) }

// has holds a slot's value against the one that must be.
func has(t *testing.T, what string, s *Slot, value string) {
	t.Helper()
	data, e := s.Load()
	if string(data) != value || e != api.OK {
		t.Errorf("%s: Load: %s, %d; want %s", what, short(string(data)), e, short(value))
	}
}

// hasNone holds a slot against one that has no value.
func hasNone(t *testing.T, what string, s *Slot) {
	t.Helper()
	if data, e := s.Load(); data != nil || e != api.ErrNone {
		t.Errorf("%s: Load: %s, %d; want none", what, short(string(data)), e)
	}
}

// sized is a value of n bytes that is not like those of another mark.
func sized(mark byte, n int) string { return strings.Repeat(string([]byte{mark}), n) }

// filesOf are the names of the files of slot "s", and how many bytes they have together.
func filesOf(d *disk.Disk) (names []string, used int) {
	for _, name := range d.Names() {
		if data, _ := d.Read(name); strings.HasPrefix(name, "s.") {
			names, used = append(names, name), used+len(data)
		}
	}
	return names, used
}

// slim holds what slot "s" takes behind a Save against the chapter's bound.
func slim(t *testing.T, what string, d *disk.Disk, value string) {
	t.Helper()
	if _, used := filesOf(d); used > len(value)+64 {
		t.Errorf("%s: %s takes %d bytes", what, short(value), used)
	}
}

// saved saves a value, and holds the slot against it in each way there is.
func saved(t *testing.T, what string, d *disk.Disk, s *Slot, value string) {
	t.Helper()
	want(t, what+": Save", s.Save([]byte(value)), api.OK)
	has(t, what, s, value)
	has(t, what+", found", opened(t, d), value)
	has(t, what+", behind a fall", fallen(t, d), value)
	slim(t, what, d, value)
	if len(d.Unsure()) > 0 {
		t.Errorf("%s: something is unsure", what)
	}
}

// The chapter's example.
func TestExample(t *testing.T) {
	d, s := on(t, 1000)
	do(t, s.Save([]byte{1}), s.Save([]byte{2}), d.Fall(0, -1))
	s = opened(t, d)
	has(t, "behind a fall", s, "\x02")
	do(t, d.Fuse(1))
	want(t, "Save", s.Save([]byte{3}), api.ErrDown)
	do(t, d.Fall(0, -1))
	has(t, "behind a Save that failed", opened(t, d), "\x02")
	for _, mask := range []uint64{0, 1, math.MaxUint64} {
		c := d.Copy()
		s = opened(t, c)
		do(t, c.Fuse(1))
		want(t, "Save", s.Save([]byte{3}), api.ErrDown)
		do(t, c.Fall(mask, -1))
		has(t, "the first change failed", opened(t, c), "\x02")
	}
}

// P6.1: which names may be.
func TestNames(t *testing.T) {
	check := func(name string, good bool) {
		t.Helper()
		d, _ := disk.New(100)
		s, e := Open(d, name)
		if good {
			want(t, "Open of "+strconv.Quote(name), e, api.OK)
			do(t, s.Save([]byte("x")))
			for _, file := range d.Names() {
				if !strings.HasPrefix(file, name+".") {
					t.Errorf("%q made a file %q", name, file)
				}
			}
			has(t, name, named(t, d, name), "x")
			return
		}
		if s != nil || e != api.ErrArg {
			t.Errorf("Open of %q: %v, %d", name, s, e)
		}
		do(t, d.Fuse(1))
		want(t, "Sync", d.Sync(), api.ErrDown)
		if s, e := Open(d, name); s != nil || e != api.ErrArg {
			t.Errorf("Open of %q on a disk that is down: %v, %d", name, s, e)
		}
	}
	for c := range 256 {
		good := c >= 'a' && c <= 'z'
		check(string([]byte{byte(c)}), good)
		check(string([]byte{'a', byte(c)}), good)
		check(string([]byte{byte(c), 'z', 'm'}), good)
	}
	check("", false)
	check("é", false)
	check("abcdefgh", true)
	check("zzzzzzzz", true)
	check("abcdefghi", false)
	check("abcdefg9", false)
	check(strings.Repeat("a", 100000), false)
}

// P6.1: Open of no disk, of one that is down, of one that has nothing; it changes nothing.
func TestOpen(t *testing.T) {
	for _, name := range []string{"s", "", "S"} {
		if s, e := Open(nil, name); s != nil || e != api.ErrArg {
			t.Errorf("Open(nil, %q): %v, %d", name, s, e)
		}
	}
	d, s := on(t, 0)
	hasNone(t, "an empty disk", s)
	want(t, "no room", s.Save(nil), api.ErrFull)
	hasNone(t, "no room", s)
	do(t, d.Fuse(1))
	hasNone(t, "Open burns no fuse", opened(t, d))
	if len(d.Names()) > 0 || len(d.Unsure()) > 0 || d.Down() {
		t.Error("Open changed the disk")
	}
	want(t, "Sync", d.Sync(), api.ErrDown)
	if s, e := Open(d, "s"); s != nil || e != api.ErrDown {
		t.Errorf("Open of a disk that is down: %v, %d", s, e)
	}
}

// P6.1: slots, a log and other files live side by side on one disk.
func TestSideBySide(t *testing.T) {
	d, s := on(t, 100000)
	others := []string{"s", "ss", "ss.0", "t.0", ".s", "s0", "0.s", "w.x"}
	for _, name := range others {
		do(t, d.Put(name, 0, []byte(name)))
	}
	l, e := wal.Open(d)
	do(t, e, l.Append([]byte("record")), d.Put("w.x", 0, []byte("w.x")))
	x, y := named(t, d, "ss"), named(t, d, "sss")
	for i := range 7 {
		n := strconv.Itoa(i)
		saved(t, "round "+n, d, s, "s"+n)
		hasNone(t, "another slot", y)
		do(t, x.Save([]byte("ss"+n)))
		has(t, "another slot", x, "ss"+n)
		has(t, "the slot", s, "s"+n)
	}
	for _, name := range others {
		if data, e := d.Read(name); !strings.HasPrefix(name, "ss") && (string(data) != name || e != api.OK) {
			t.Errorf("file %q: %q, %d", name, data, e)
		}
	}
	if data, e := l.Read(1); string(data) != "record" || e != api.OK {
		t.Errorf("the log: %q, %d", data, e)
	}
}

// P6.2: values of all sizes, each behind each.
func TestSizes(t *testing.T) {
	d, s := on(t, api.MaxDisk)
	hasNone(t, "ahead of the first", s)
	sizes := []int{0, 1, 7, 8, 9, 255, 256, 257, 1000, 65519, api.MaxFrame - 16}
	mark := byte(0)
	for _, one := range sizes {
		for _, other := range sizes {
			for _, n := range []int{one, other} {
				saved(t, strconv.Itoa(n)+" bytes", d, s, sized(mark, n))
				mark++
			}
		}
	}
	var all []byte
	for c := range 256 {
		all = append(all, byte(c))
	}
	saved(t, "all bytes", d, s, string(all))
	do(t, s.Save(nil))
	has(t, "nil", s, "")
}

// P6.2: a value that is too large, ahead of an error of the disk.
func TestTooLarge(t *testing.T) {
	d, s := on(t, api.MaxDisk)
	for _, n := range []int{api.MaxFrame - 15, api.MaxFrame - 8, api.MaxFrame, api.MaxFrame + 1, 1 << 20} {
		want(t, strconv.Itoa(n)+" bytes", s.Save(make([]byte, n)), api.ErrLarge)
		hasNone(t, "refused", s)
	}
	if len(d.Names()) > 0 || len(d.Unsure()) > 0 {
		t.Error("refused, and the disk is another one")
	}
	do(t, s.Save([]byte("a")), d.Room(0), d.Fuse(1))
	want(t, "no room", s.Save(make([]byte, api.MaxFrame-15)), api.ErrLarge)
	has(t, "refused", s, "a")
	want(t, "no room", s.Save(make([]byte, api.MaxFrame-16)), api.ErrFull)
	has(t, "refused", s, "a")
	want(t, "Sync", d.Sync(), api.ErrDown)
	want(t, "a disk that is down", s.Save(make([]byte, api.MaxFrame-15)), api.ErrLarge)
	want(t, "a disk that is down", s.Save(nil), api.ErrDown)
}

// P6.2: a disk without room: the value is as it was, nothing is changed, and the slot goes on.
func TestFull(t *testing.T) {
	for _, size := range []int{0, 1, 100, 5000} {
		for _, next := range []int{0, 1, 99, 100, 101, 6000} {
			value, later := sized('a', size), sized('b', next)
			d, s := on(t, api.MaxDisk)
			do(t, d.Put("x", 0, make([]byte, 33)), s.Save([]byte(value)), d.Put("y", 0, []byte("y")))
			names, used := d.Names(), d.Used()
			for _, room := range []int{0, used, used + next - 1} {
				do(t, d.Room(max(room, 0)))
				want(t, "no room", s.Save([]byte(later)), api.ErrFull)
				has(t, "no room", s, value)
				has(t, "no room, found", opened(t, d), value)
				has(t, "no room, behind a fall", fallen(t, d), value)
				if !slices.Equal(d.Names(), names) || d.Used() != used || len(d.Unsure()) != 1 {
					t.Errorf("refused, and the disk is another one: %v", d.Names())
				}
			}
			// Room for both values.
			do(t, d.Room(used+next+64))
			saved(t, "room", d, s, later)
		}
	}
}

// P6.2: room for both values is enough behind a fall too, whatever that left aside.
func TestFullBehindFall(t *testing.T) {
	for n := 1; n <= 4; n++ {
		for _, torn := range []int{-1, 0, 3, 8, 500, 1007} {
			d, s := on(t, api.MaxDisk)
			do(t, s.Save([]byte(sized('a', 1000))), d.Fuse(n))
			want(t, "Save", s.Save([]byte(sized('b', 1000))), api.ErrDown)
			do(t, d.Fall(math.MaxUint64, torn), d.Room(1000))
			s = opened(t, d)
			value, e := s.Load()
			do(t, e)
			want(t, "no room", s.Save([]byte(sized('c', 1000))), api.ErrFull)
			has(t, "no room", s, string(value))
			has(t, "no room, behind a fall", fallen(t, d), string(value))
			do(t, d.Room(2000+2*64))
			saved(t, "room", d, s, sized('c', 1000))
		}
	}
}

// P6.2: the disk's other errors: there may be no file more.
func TestTooManyFiles(t *testing.T) {
	d, s := on(t, 100000)
	for i := range api.MaxFiles - 1 {
		do(t, d.Put("x"+strconv.Itoa(i), 0, nil))
	}
	do(t, s.Save([]byte("a")))
	want(t, "Save", s.Save([]byte("b")), api.ErrLarge)
	has(t, "refused", s, "a")
	has(t, "refused, found", opened(t, d), "a")
	do(t, d.Remove("x0"))
	saved(t, "it goes on", d, s, "b")
}

// P6.3: a nil slot, and one that nobody opened.
func TestNil(t *testing.T) {
	for _, s := range []*Slot{nil, {}} {
		if data, e := s.Load(); data != nil || e != api.ErrArg {
			t.Errorf("Load: %x, %d", data, e)
		}
		for _, n := range []int{0, 1, api.MaxFrame} {
			want(t, "Save", s.Save(make([]byte, n)), api.ErrArg)
		}
	}
}

// isDead holds a slot against one that answered ErrDown.
func isDead(t *testing.T, what string, s *Slot) {
	t.Helper()
	for range 2 {
		if data, e := s.Load(); data != nil || e != api.ErrDown {
			t.Errorf("%s: Load: %x, %d", what, data, e)
		}
		want(t, what+": Save", s.Save([]byte("x")), api.ErrDown)
		want(t, what+": Save of too much", s.Save(make([]byte, api.MaxFrame)), api.ErrDown)
	}
}

// P6.3: behind ErrDown of any call a slot stays down, also when the disk is up again.
func TestDead(t *testing.T) {
	load := func(s *Slot) api.Errno { _, e := s.Load(); return e }
	save := func(s *Slot) api.Errno { return s.Save([]byte("b")) }
	for n := 0; n <= 4; n++ {
		for what, call := range map[string]func(s *Slot) api.Errno{"Load": load, "Save": save} {
			d, s := on(t, 1000)
			do(t, s.Save([]byte("a")), d.Fuse(n))
			if n == 0 || what == "Load" {
				// The disk goes down by somebody else's call.
				do(t, d.Fuse(1))
				want(t, "Sync", d.Sync(), api.ErrDown)
			}
			want(t, what, call(s), api.ErrDown)
			do(t, d.Fall(math.MaxUint64, -1))
			isDead(t, what+", behind a fall", s)
			other := opened(t, d)
			saved(t, what+", found", d, other, "c")
			isDead(t, what+", behind Open", s)
			has(t, what+", found", other, "c")
		}
	}
}

// A fall that no call of the slot was answered with: it goes on.
func TestFallUnderneath(t *testing.T) {
	d, s := on(t, 1000)
	do(t, s.Save([]byte("a")), d.Put("x", 0, []byte("x")), d.Fuse(1))
	want(t, "Sync", d.Sync(), api.ErrDown)
	do(t, d.Fall(0, -1))
	has(t, "behind a fall", s, "a")
	saved(t, "behind a fall", d, s, "b")
}

// P6.2: of two slots of one name both tell what was saved last, also where one of them is dead.
func TestTwoOfOneName(t *testing.T) {
	d, s := on(t, 10000)
	other := opened(t, d)
	for i := range 7 {
		n := strconv.Itoa(i)
		saved(t, "one", d, s, "one"+n)
		has(t, "the other", other, "one"+n)
		saved(t, "the other", d, other, "other"+n)
		has(t, "one", s, "other"+n)
	}
	for n := 1; n <= 4; n++ {
		c := d.Copy()
		one, other := opened(t, c), opened(t, c)
		do(t, c.Fuse(n))
		want(t, "Save", one.Save([]byte(sized('a', 900))), api.ErrDown)
		do(t, c.Fall(math.MaxUint64, 500))
		found, e := opened(t, c).Load()
		do(t, e)
		has(t, "the other", other, string(found))
		saved(t, "the other", c, other, "b")
		isDead(t, "one", one)
	}
}

// R4: what is handed in is neither changed nor kept, and what is answered is not shared.
func TestNothingIsShared(t *testing.T) {
	d, s := on(t, 10000)
	room := []byte("abcdef")
	do(t, s.Save(room[1:3:5]))
	if string(room) != "abcdef" {
		t.Errorf("Save changed what was handed in: %q", room)
	}
	copy(room, "XXXXXX")
	has(t, "kept", s, "bc")
	one, _ := s.Load()
	copy(one, "YY")
	_ = append(one, 'Z')
	has(t, "answered", s, "bc")
	has(t, "on the disk", fallen(t, d), "bc")
}

// R1: files that no slot made are no value; no call panics, and Save goes on.
func TestForeignFiles(t *testing.T) {
	good, _ := codec.Frame([]byte("good"))
	wrong := bytes.Clone(good)
	wrong[9] ^= 1
	large := append([]byte{0, 1, 0, 1, 0, 0, 0, 0}, make([]byte, 70000)...)
	list := [][]byte{nil, {}, good, wrong, good[:7], good[:11], slices.Concat(good, []byte{0}), slices.Concat(good, good), make([]byte, 8), large}
	for i := range len(list) * len(list) * len(list) {
		d, s := on(t, api.MaxDisk)
		for turn, k := range []int{i % len(list), i / len(list) % len(list), i / len(list) / len(list)} {
			if data := list[k]; data != nil {
				do(t, d.Put("s."+strconv.Itoa(turn), 0, data))
			}
		}
		do(t, d.Put("s.x", 0, []byte("x")), d.Put("s.3", 0, good), d.Put("s.", 0, good), d.Put("s.00", 0, good))
		data, e := s.Load()
		if e == api.ErrNone && data != nil || e == api.OK && string(data) != "good" || e != api.OK && e != api.ErrNone {
			t.Errorf("case %d: Load: %q, %d", i, data, e)
		}
		for k := range 4 {
			v := strconv.Itoa(k)
			do(t, s.Save([]byte(v)))
			has(t, "case "+strconv.Itoa(i), s, v)
			has(t, "case "+strconv.Itoa(i)+", behind a fall", fallen(t, d), v)
		}
	}
}
