package disk

import (
	"bytes"
	"math"
	"slices"
	"strconv"
	"strings"
	"testing"

	"scupper/api"
)

// with is an empty disk with so much room.
func with(t *testing.T, room int) *Disk {
	t.Helper()
	d, e := New(room)
	if d == nil || e != api.OK {
		t.Fatalf("New(%d): %v, %d", room, d, e)
	}
	return d
}

// want holds an error against the one that must be.
func want(t *testing.T, what string, got, e api.Errno) {
	t.Helper()
	if got != e {
		t.Errorf("%s: %d; want %d", what, got, e)
	}
}

// has holds a disk's files against text: names rising, each with its bytes, as "a=xy b=".
func has(t *testing.T, what string, d *Disk, text string) {
	t.Helper()
	var list []string
	used := 0
	for _, name := range d.Names() {
		data, e := d.Read(name)
		want(t, what+": Read("+name+")", e, api.OK)
		list = append(list, name+"="+string(data))
		used += len(data)
	}
	if got := strings.Join(list, " "); got != text {
		t.Errorf("%s: files %q; want %q", what, got, text)
	}
	if d.Used() != used {
		t.Errorf("%s: Used %d; want %d", what, d.Used(), used)
	}
}

// sureOf is what a disk would have if it lost all that is unsure.
func sureOf(d *Disk) *Disk {
	c := d.Copy()
	c.Fall(0, -1)
	return c
}

// do does what must go well.
func do(t *testing.T, list ...api.Errno) {
	t.Helper()
	for i, e := range list {
		if e != api.OK {
			t.Fatalf("step %d: %d; want OK", i, e)
		}
	}
}

// The chapter's examples.
func TestExamples(t *testing.T) {
	d := with(t, 100)
	do(t, d.Put("a", 2, []byte{7}))
	has(t, "Put behind the end", d, "a=\x00\x00\x07")
	do(t, d.Fall(0, -1))
	has(t, "Fall", d, "")
	do(t, d.Put("a", 0, []byte{1, 2}), d.Sync(), d.Put("a", 0, []byte{8, 9}), d.Fall(1, 1))
	has(t, "a torn Put", d, "a=\x08\x02")

	d = with(t, 3)
	want(t, "4 bytes", d.Put("a", 0, make([]byte, 4)), api.ErrFull)
	do(t, d.Fuse(2), d.Put("a", 0, []byte("x")))
	want(t, "the second one", d.Put("a", 1, []byte("y")), api.ErrDown)
	if !d.Down() {
		t.Error("not down")
	}
}

// P4.1: which room a disk may have.
func TestNewRoom(t *testing.T) {
	for _, n := range []int{0, 1, 1000, api.MaxDisk - 1, api.MaxDisk} {
		d := with(t, n)
		has(t, "New", d, "")
		if d.Down() || len(d.Unsure()) > 0 {
			t.Errorf("New(%d): down, or unsure", n)
		}
		if n < api.MaxDisk {
			want(t, "a byte more than room", d.Cut("a", n+1), api.ErrFull)
		}
		want(t, "as many bytes as room", d.Cut("a", n), api.OK)
	}
	for _, n := range []int{-1, math.MinInt, api.MaxDisk + 1, math.MaxInt} {
		if d, e := New(n); d != nil || e != api.ErrArg {
			t.Errorf("New(%d): %v, %d", n, d, e)
		}
	}
}

// P4.1, P4.2: which names may be.
func TestNames(t *testing.T) {
	check := func(name string, good bool) {
		t.Helper()
		d := with(t, 10)
		e, none := api.ErrArg, api.ErrArg
		if good {
			e, none = api.OK, api.ErrNone
		}
		_, got := d.Read(name)
		want(t, "Read "+strconv.Quote(name), got, none)
		want(t, "Put "+strconv.Quote(name), d.Put(name, 0, nil), e)
		want(t, "Remove "+strconv.Quote(name), d.Remove(name), e)
		want(t, "Cut "+strconv.Quote(name), d.Cut(name, 1), e)
		if !good && (len(d.Names()) > 0 || len(d.Unsure()) > 0) {
			t.Errorf("%q: refused, and something is changed", name)
		}
	}
	for c := range 256 {
		good := c >= 'a' && c <= 'z' || c >= '0' && c <= '9' || c == '.'
		check(string([]byte{byte(c)}), good)
		check(string([]byte{'a', byte(c)}), good)
		check(string([]byte{byte(c), 'z', '9'}), good)
	}
	check("", false)
	check("é", false)
	check("..", true)
	check(strings.Repeat("a", api.MaxName), true)
	check(strings.Repeat("a", api.MaxName+1), false)
	check(strings.Repeat("a", 100000), false)
}

// P4.1: which places may be, with room for them and without.
func TestPlaces(t *testing.T) {
	for _, n := range []int{-1, math.MinInt, api.MaxDisk + 1, math.MaxInt} {
		d := with(t, 0)
		want(t, "Put", d.Put("a", n, []byte("x")), api.ErrArg)
		want(t, "Put of nothing", d.Put("a", n, nil), api.ErrArg)
		want(t, "Cut", d.Cut("a", n), api.ErrArg)
		has(t, "places that may not be", d, "")
	}
	d := with(t, api.MaxDisk)
	want(t, "Put at the end", d.Put("a", api.MaxDisk, []byte("x")), api.ErrFull)
	want(t, "Put of nothing at the end", d.Put("a", api.MaxDisk, nil), api.OK)
	want(t, "Cut at the end", d.Cut("a", api.MaxDisk), api.OK)
	want(t, "Put of the last byte", d.Put("a", api.MaxDisk-1, []byte("x")), api.OK)
	data, e := d.Read("a")
	if e != api.OK || len(data) != api.MaxDisk || data[api.MaxDisk-1] != 'x' || bytes.Count(data, []byte{0}) != api.MaxDisk-1 {
		t.Errorf("Read: %d bytes, %d", len(data), e)
	}
}

// P4.1: what each change does, that it is seen at once, and that a Sync makes it sure.
func TestChanges(t *testing.T) {
	d := with(t, 1000)
	for _, c := range []struct {
		change func() api.Errno
		want   string
	}{
		{func() api.Errno { return d.Put("a", 0, []byte("hello")) }, "a=hello"},
		{func() api.Errno { return d.Put("a", 1, []byte("EL")) }, "a=hELlo"},
		{func() api.Errno { return d.Put("a", 4, []byte("O!")) }, "a=hELlO!"},
		{func() api.Errno { return d.Put("a", 8, []byte("z")) }, "a=hELlO!\x00\x00z"},
		{func() api.Errno { return d.Cut("a", 3) }, "a=hEL"},
		{func() api.Errno { return d.Cut("a", 5) }, "a=hEL\x00\x00"},
		{func() api.Errno { return d.Cut("a", 5) }, "a=hEL\x00\x00"},
		{func() api.Errno { return d.Cut("a", 0) }, "a="},
		{func() api.Errno { return d.Put("a", 2, []byte("x")) }, "a=\x00\x00x"},
		{func() api.Errno { return d.Put("a", 1, nil) }, "a=\x00\x00x"},
		{func() api.Errno { return d.Put("a", 4, nil) }, "a=\x00\x00x\x00"},
		{func() api.Errno { return d.Put("b", 0, nil) }, "a=\x00\x00x\x00 b="},
		{func() api.Errno { return d.Put("c", 1, nil) }, "a=\x00\x00x\x00 b= c=\x00"},
		{func() api.Errno { return d.Remove("c") }, "a=\x00\x00x\x00 b="},
		{func() api.Errno { return d.Cut("0", 1) }, "0=\x00 a=\x00\x00x\x00 b="},
		{func() api.Errno { return d.Remove("a") }, "0=\x00 b="},
		{func() api.Errno { return d.Remove("a") }, "0=\x00 b="},
		{func() api.Errno { return d.Put("a", 1, []byte("y")) }, "0=\x00 a=\x00y b="},
	} {
		want(t, c.want, c.change(), api.OK)
		has(t, c.want, d, c.want)
	}
	has(t, "without a Sync", sureOf(d), "")
	do(t, d.Sync())
	has(t, "behind a Sync", sureOf(d), "0=\x00 a=\x00y b=")
	has(t, "a Sync changes nothing that is seen", d, "0=\x00 a=\x00y b=")
}

// P4.1: bytes that a Cut took are noughts when the file grows again, wherever in the file it is.
func TestGrowAgain(t *testing.T) {
	for _, n := range []int{0, 1, 255, 256, 257, 511, 512, 513, 999, 1000} {
		for _, m := range []int{n, n + 1, 256, 512, 768, 1000, 1500} {
			d := with(t, 4000)
			do(t, d.Put("a", 0, bytes.Repeat([]byte("x"), 1000)), d.Cut("a", n), d.Put("a", m, []byte("y")))
			data, _ := d.Read("a")
			model := append(append(bytes.Repeat([]byte("x"), n), make([]byte, 1500)...), 0)
			model[m] = 'y'
			if model = model[:max(n, m+1)]; !bytes.Equal(data, model) {
				t.Errorf("Cut to %d, Put at %d: %d bytes, not as they must be", n, m, len(data))
			}
		}
	}
}

// P4.1: of several errors the one that is named first is answered.
func TestWhichError(t *testing.T) {
	d := with(t, 3)
	do(t, d.Fuse(1))
	want(t, "ErrArg ahead of the fuse", d.Put("A", 0, nil), api.ErrArg)
	want(t, "ErrArg ahead of ErrFull", d.Put("a", api.MaxDisk+1, nil), api.ErrArg)
	want(t, "ErrFull ahead of the fuse", d.Cut("a", 4), api.ErrFull)
	want(t, "the fuse", d.Put("a", 0, nil), api.ErrDown)
	for _, name := range []string{"a", "A", ""} {
		want(t, "Put", d.Put(name, 0, nil), api.ErrDown)
		want(t, "Put at no place", d.Put(name, -1, nil), api.ErrDown)
		want(t, "Put of too much", d.Put(name, 0, make([]byte, 4)), api.ErrDown)
		want(t, "Cut", d.Cut(name, -1), api.ErrDown)
		want(t, "Remove", d.Remove(name), api.ErrDown)
		if data, e := d.Read(name); len(data) > 0 || e != api.ErrDown {
			t.Errorf("Read(%q): %x, %d; want ErrDown", name, data, e)
		}
	}
	want(t, "Sync", d.Sync(), api.ErrDown)
}

// full is a disk with MaxFiles files of no bytes, all sure.
func full(t *testing.T, room int) *Disk {
	t.Helper()
	d := with(t, room)
	for i := range api.MaxFiles {
		do(t, d.Put(strconv.Itoa(i), 0, nil))
	}
	do(t, d.Sync())
	return d
}

// P4.1: as many files as there may be.
func TestMaxFiles(t *testing.T) {
	d := full(t, 2)
	want(t, "Put of one more", d.Put("a", 0, nil), api.ErrLarge)
	want(t, "Cut of one more", d.Cut("a", 0), api.ErrLarge)
	want(t, "ErrLarge ahead of ErrFull", d.Cut("a", 3), api.ErrLarge)
	want(t, "ErrArg ahead of ErrLarge", d.Cut("a", -1), api.ErrArg)
	want(t, "ErrFull", d.Put("7", 0, []byte("xyz")), api.ErrFull)
	if len(d.Unsure()) > 0 || len(d.Names()) != api.MaxFiles {
		t.Error("refused, and something is changed")
	}
	do(t, d.Put("7", 0, []byte("x")), d.Cut("8", 1), d.Remove("a"))
	do(t, d.Remove("9"), d.Cut("a", 0))
	want(t, "one more again", d.Put("9", 0, nil), api.ErrLarge)
	do(t, d.Remove("7"), d.Put("9", 0, nil))
}

// P4.1, P4.4: a fall may leave more files than there may be: none is made any more, the rest goes on.
func TestMoreThanMaxFiles(t *testing.T) {
	d := full(t, 2)
	do(t, d.Remove("7"), d.Put("a", 0, nil), d.Remove("8"), d.Put("b", 0, nil), d.Fall(0b1010, -1))
	if n := len(d.Names()); n != api.MaxFiles+2 {
		t.Fatalf("%d files; want %d", n, api.MaxFiles+2)
	}
	want(t, "Put of one more", d.Put("c", 0, nil), api.ErrLarge)
	want(t, "Cut of one more", d.Cut("c", 0), api.ErrLarge)
	do(t, d.Put("a", 0, []byte("x")), d.Cut("b", 1), d.Remove("c"), d.Sync(), d.Remove("a"), d.Remove("b"))
	want(t, "Put of one more", d.Put("c", 0, nil), api.ErrLarge)
	do(t, d.Remove("7"), d.Put("c", 0, nil))
}

// P4.1: how much room there is, for all files together.
func TestFull(t *testing.T) {
	d := with(t, 5)
	do(t, d.Put("a", 0, []byte("abc")))
	want(t, "a byte too many, in a file more", d.Put("b", 0, []byte("xyz")), api.ErrFull)
	want(t, "a byte too many, in the same", d.Put("a", 3, []byte("xyz")), api.ErrFull)
	want(t, "noughts count", d.Put("b", 2, []byte("x")), api.ErrFull)
	want(t, "noughts alone count", d.Put("b", 3, nil), api.ErrFull)
	want(t, "Cut", d.Cut("b", 3), api.ErrFull)
	want(t, "Cut of what is there", d.Cut("a", 6), api.ErrFull)
	has(t, "refused", d, "a=abc")
	if n := len(d.Unsure()); n != 1 {
		t.Errorf("%d changes are unsure; want 1", n)
	}
	do(t, d.Put("b", 1, []byte("x")), d.Put("a", 0, []byte("ABC")), d.Put("c", 0, nil), d.Cut("a", 2), d.Cut("d", 1))
	has(t, "as much as there is room for", d, "a=AB b=\x00x c= d=\x00")
	want(t, "nothing is left", d.Put("c", 0, []byte("x")), api.ErrFull)
	do(t, d.Remove("b"), d.Put("c", 0, []byte("xy")))
	has(t, "what is gone makes room", d, "a=AB c=xy d=\x00")
}

// P4.1, P4.3: more bytes than there is room for stay, and may be fewer.
func TestLessRoom(t *testing.T) {
	d := with(t, 9)
	do(t, d.Put("a", 0, []byte("abcdef")), d.Sync(), d.Room(2))
	has(t, "Room", d, "a=abcdef")
	want(t, "a byte more", d.Put("a", 6, []byte("g")), api.ErrFull)
	want(t, "a byte elsewhere", d.Put("b", 0, []byte("g")), api.ErrFull)
	want(t, "Cut", d.Cut("a", 7), api.ErrFull)
	do(t, d.Put("a", 4, []byte("EF")), d.Put("b", 0, nil), d.Cut("c", 0), d.Cut("a", 6), d.Sync(), d.Cut("a", 4))
	has(t, "still more than room", d, "a=abcd b= c=")
	want(t, "a byte more", d.Put("a", 4, []byte("e")), api.ErrFull)
	do(t, d.Cut("a", 1), d.Put("b", 0, []byte("B")))
	want(t, "a byte more than room", d.Put("c", 0, []byte("c")), api.ErrFull)
	do(t, d.Room(3), d.Put("c", 0, []byte("c")))
	has(t, "more room", d, "a=a b=B c=c")
}

// P4.3: which room there may be later on, and that it stays behind a fall.
func TestRoom(t *testing.T) {
	d := with(t, 3)
	for _, n := range []int{-1, math.MinInt, api.MaxDisk + 1, math.MaxInt} {
		want(t, "Room", d.Room(n), api.ErrArg)
	}
	want(t, "as it was", d.Cut("a", 4), api.ErrFull)
	do(t, d.Cut("a", 3), d.Room(0))
	want(t, "none", d.Cut("b", 1), api.ErrFull)
	do(t, d.Room(api.MaxDisk), d.Cut("b", api.MaxDisk-3))
	want(t, "all", d.Cut("c", 1), api.ErrFull)
	do(t, d.Room(1), d.Fall(0, -1))
	want(t, "behind a fall", d.Cut("a", 2), api.ErrFull)
	do(t, d.Cut("a", 1))
	do(t, d.Fuse(1))
	want(t, "the fuse", d.Sync(), api.ErrDown)
	want(t, "of a disk that is down", d.Room(-1), api.ErrArg)
	do(t, d.Room(2), d.Fall(0, -1), d.Cut("a", 2))
}

// P4.1, P4.3: the n-th change or Sync fails, each counts, and no refused call does.
func TestFuse(t *testing.T) {
	steps := []func(d *Disk) api.Errno{
		func(d *Disk) api.Errno { return d.Put("a", 0, []byte("x")) },
		func(d *Disk) api.Errno { return d.Cut("b", 1) },
		func(d *Disk) api.Errno { return d.Remove("c") },
		func(d *Disk) api.Errno { return d.Sync() },
		func(d *Disk) api.Errno { return d.Put("a", 0, nil) },
		func(d *Disk) api.Errno { return d.Remove("a") },
		func(d *Disk) api.Errno { return d.Sync() },
		func(d *Disk) api.Errno { return d.Sync() },
	}
	for n := range len(steps) + 2 {
		d := with(t, 9)
		do(t, d.Fuse(n))
		for i, step := range steps {
			before, unsure, sure := d.files.clone(), len(d.Unsure()), sureOf(d)
			want(t, "no name", d.Put("", 0, nil), api.ErrArg)
			want(t, "no room", d.Cut("z", 10), api.ErrFull)
			d.Read("a")
			d.Names()
			if n != i+1 {
				want(t, "step "+strconv.Itoa(i), step(d), api.OK)
				continue
			}
			want(t, "step "+strconv.Itoa(i), step(d), api.ErrDown)
			if !d.Down() || len(d.Names()) > 0 || len(d.Unsure()) != unsure || d.Used() != before.used {
				t.Errorf("Fuse(%d): not down, or something is changed", n)
			}
			if !slices.Equal(sureOf(d).Names(), sure.Names()) {
				t.Errorf("Fuse(%d): something else is sure", n)
			}
			d.Fall(math.MaxUint64, -1)
			if !slices.Equal(d.Names(), before.names()) {
				t.Errorf("Fuse(%d): behind a fall %v; want %v", n, d.Names(), before.names())
			}
			do(t, d.Sync(), d.Sync(), d.Sync())
			break
		}
	}
}

// P4.3: which fuse there may be; the last one holds; a fall takes it away.
func TestFuseNumbers(t *testing.T) {
	d := with(t, 9)
	do(t, d.Fuse(2))
	want(t, "Fuse(-1)", d.Fuse(-1), api.ErrArg)
	want(t, "Fuse(MinInt)", d.Fuse(math.MinInt), api.ErrArg)
	do(t, d.Sync())
	want(t, "the second Sync", d.Sync(), api.ErrDown)
	want(t, "Fuse(-1), down", d.Fuse(-1), api.ErrArg)
	do(t, d.Fuse(0))
	if !d.Down() {
		t.Error("Fuse(0): not down any more")
	}
	want(t, "Sync", d.Sync(), api.ErrDown)
	do(t, d.Fuse(1), d.Fall(0, -1))
	do(t, d.Sync(), d.Fuse(1), d.Fuse(2), d.Sync(), d.Fuse(2), d.Sync(), d.Fuse(0), d.Sync(), d.Sync())
	do(t, d.Fuse(1), d.Fall(0, -1), d.Sync(), d.Fuse(math.MaxInt), d.Sync())
}

// P4.2: Read, Names and Used, by hand.
func TestLooks(t *testing.T) {
	d := with(t, 99)
	do(t, d.Put("b", 0, []byte("xy")), d.Put("a.b", 0, nil), d.Put("a", 0, []byte("z")), d.Put("9", 0, nil), d.Put(".", 0, nil), d.Put("aa", 0, nil), d.Put("10", 0, nil))
	if got := strings.Join(d.Names(), " "); got != ". 10 9 a a.b aa b" {
		t.Errorf("Names: %s", got)
	}
	if data, e := d.Read("a.b"); len(data) != 0 || e != api.OK {
		t.Errorf("Read of an empty file: %x, %d", data, e)
	}
	for _, c := range []struct {
		name string
		e    api.Errno
	}{{"c", api.ErrNone}, {"", api.ErrArg}, {"A", api.ErrArg}, {"a b", api.ErrArg}} {
		if data, e := d.Read(c.name); len(data) > 0 || e != c.e {
			t.Errorf("Read(%q): %x, %d; want %d", c.name, data, e, c.e)
		}
	}
	do(t, d.Fuse(1))
	want(t, "the fuse", d.Sync(), api.ErrDown)
	if d.Used() != 3 || len(d.Names()) > 0 || len(d.Unsure()) != 7 {
		t.Errorf("down: Used %d, Names %v, %d unsure; want 3, none, 7", d.Used(), d.Names(), len(d.Unsure()))
	}
}

// P4.2: the unsure changes, with those that change nothing, and without those that were refused.
func TestUnsure(t *testing.T) {
	d := with(t, 9)
	do(t, d.Put("a", 1, []byte("xy")), d.Cut("b", 2), d.Remove("a"), d.Remove("a"), d.Put("b", 0, nil))
	d.Put("A", 0, nil)
	d.Cut("b", 10)
	list := []api.Write{
		{Kind: 1, Name: "a", Off: 1, Data: []byte("xy")},
		{Kind: 2, Name: "b", Off: 2},
		{Kind: 3, Name: "a"},
		{Kind: 3, Name: "a"},
		{Kind: 1, Name: "b"},
	}
	if got := d.Unsure(); !sameWrites(got, list) {
		t.Errorf("Unsure: %v; want %v", got, list)
	}
	do(t, d.Sync())
	if got := d.Unsure(); len(got) > 0 {
		t.Errorf("Unsure behind a Sync: %v", got)
	}
	do(t, d.Put("c", 0, nil), d.Fall(math.MaxUint64, -1))
	if got := d.Unsure(); len(got) > 0 {
		t.Errorf("Unsure behind a Fall: %v", got)
	}
}

// sameWrites holds changes against each other; no data and empty data are the same.
func sameWrites(a, b []api.Write) bool {
	return slices.EqualFunc(a, b, func(x, y api.Write) bool {
		return x.Kind == y.Kind && x.Name == y.Name && x.Off == y.Off && bytes.Equal(x.Data, y.Data)
	})
}

// P4.4: what stays, by the mask.
func TestFallMask(t *testing.T) {
	for _, c := range []struct {
		mask uint64
		want string
	}{
		{0b00000, "a=sure b=old"},
		{0b00001, "a=SUre b=old"},
		{0b00010, "a=su b=old"},
		{0b00011, "a=SU b=old"},
		{0b00100, "a=sure"},
		{0b01000, "a=sure b=neW"},
		{0b01100, "a=sure b=neW"},
		{0b10000, "a=sure\x00! b=old"},
		{0b10010, "a=su\x00\x00\x00! b=old"},
		{0b11111, "a=SU\x00\x00\x00! b=neW"},
		{0b11111 | 1<<63, "a=SU\x00\x00\x00! b=neW"},
		{1 << 5, "a=sure b=old"},
		{math.MaxUint64, "a=SU\x00\x00\x00! b=neW"},
	} {
		d := with(t, 99)
		do(t, d.Put("a", 0, []byte("sure")), d.Put("b", 0, []byte("old")), d.Sync())
		do(t, d.Put("a", 0, []byte("SU")), d.Cut("a", 2), d.Remove("b"), d.Put("b", 0, []byte("neW")), d.Put("a", 5, []byte("!")))
		do(t, d.Fall(c.mask, -1))
		has(t, strconv.FormatUint(c.mask, 2), d, c.want)
		do(t, d.Fall(math.MaxUint64, -1))
		has(t, "sure now, "+strconv.FormatUint(c.mask, 2), d, c.want)
	}
}

// P4.4: bit k modulo 64 tells of the k-th change.
func TestFallManyChanges(t *testing.T) {
	for _, mask := range []uint64{0, 1, 2, 1 << 63, 1<<63 | 1, 0xF0F0F0F0_12345678, math.MaxUint64} {
		d := with(t, 999)
		for k := range 200 {
			do(t, d.Put("a", k, []byte{byte(k) + 1}))
		}
		do(t, d.Fall(mask, -1))
		data, _ := d.Read("a")
		for k := range 200 {
			there := k < len(data) && data[k] != 0
			if stays := mask>>(uint(k)%64)&1 == 1; there != stays {
				t.Errorf("mask %x: change %d is there: %v", mask, k, there)
			}
		}
	}
}

// P4.4: the last Put that stays is torn, no other, and only if it has more.
func TestFallTorn(t *testing.T) {
	for _, c := range []struct {
		mask uint64
		torn int
		want string
	}{
		{0b1111, -1, "a=ABCde b=xy"},
		{0b1111, math.MinInt, "a=ABCde b=xy"},
		{0b1111, 0, "a=ABCde b="},
		{0b1111, 1, "a=ABCde b=x"},
		{0b1111, 2, "a=ABCde b=xy"},
		{0b1111, 3, "a=ABCde b=xy"},
		{0b1111, math.MaxInt, "a=ABCde b=xy"},
		{0b0001, 2, "a=ABcdefg"},
		{0b0011, 2, "a=ABcde"},
		{0b1011, 0, "a=abcde"},
		{0b1010, 0, "a=abcde"},
		{0b0001, 0, "a=abcdefg"},
		{0b0101, 0, "a=ABCdefg b="},
		{0b1000, 0, "a=abcdefg"},
	} {
		d := with(t, 99)
		do(t, d.Put("a", 0, []byte("abcdefg")), d.Sync())
		do(t, d.Put("a", 0, []byte("ABC")), d.Cut("a", 5), d.Put("b", 0, []byte("xy")), d.Remove("c"))
		do(t, d.Fall(c.mask, c.torn))
		has(t, strconv.FormatUint(c.mask, 2)+" torn at "+strconv.Itoa(c.torn), d, c.want)
	}
}

// P4.4: a torn Put behind the end leaves noughts ahead of what is there of it, and nothing behind.
func TestFallTornBehindTheEnd(t *testing.T) {
	for torn, text := range []string{"a=x\x00\x00", "a=x\x00\x00A", "a=x\x00\x00AB"} {
		d := with(t, 99)
		do(t, d.Put("a", 0, []byte("x")), d.Sync(), d.Put("a", 3, []byte("AB")), d.Fall(1, torn))
		has(t, "torn at "+strconv.Itoa(torn), d, text)
	}
	d := with(t, 99)
	do(t, d.Put("a", 0, []byte("abcdef")), d.Sync(), d.Put("a", 1, []byte("BCD")), d.Remove("a"), d.Fall(0b11, 1))
	has(t, "a Put that is torn, and gone behind it", d, "")
	do(t, d.Put("a", 0, []byte("AB")), d.Cut("a", 1), d.Cut("a", 3), d.Fall(0b101, 1))
	has(t, "Cuts behind a torn Put", d, "a=A\x00\x00")
}

// P4.4: a disk that is down works again, one that is not falls as well, and both go on.
func TestFallGoesOn(t *testing.T) {
	d := with(t, 9)
	do(t, d.Put("a", 0, []byte("x")), d.Sync(), d.Put("b", 0, []byte("y")), d.Fuse(1))
	want(t, "the fuse", d.Put("c", 0, []byte("z")), api.ErrDown)
	do(t, d.Fall(math.MaxUint64, -1))
	has(t, "what failed is not there", d, "a=x b=y")
	if d.Down() {
		t.Error("still down")
	}
	do(t, d.Put("c", 0, []byte("z")), d.Fall(0, -1), d.Put("d", 0, nil))
	has(t, "behind two falls", d, "a=x b=y d=")
	do(t, d.Fall(0, -1))
	has(t, "behind three", d, "a=x b=y")
}

// P4.4: a fall has no error where it leaves more bytes than there is room for, or a great many files.
func TestFallLeavesMore(t *testing.T) {
	d := with(t, 4)
	do(t, d.Put("a", 0, []byte("abcd")), d.Sync(), d.Remove("a"), d.Put("b", 0, []byte("efgh")), d.Fall(0b10, -1))
	has(t, "both", d, "a=abcd b=efgh")
	want(t, "a byte more", d.Put("c", 0, []byte("i")), api.ErrFull)
	do(t, d.Put("a", 0, []byte("ABCD")), d.Cut("b", 1))
	has(t, "going on", d, "a=ABCD b=e")

	const count = 20000
	d = with(t, api.MaxDisk)
	for i := range count {
		name := strconv.Itoa(i)
		do(t, d.Put(name, api.MaxDisk-1, []byte("x")), d.Remove(name))
	}
	do(t, d.Fall(0x5555555555555555, -1))
	if d.Used() != count*api.MaxDisk || len(d.Names()) != count {
		t.Errorf("%d files of %d bytes", len(d.Names()), d.Used())
	}
	data, e := d.Copy().Read("777")
	if e != api.OK || len(data) != api.MaxDisk || data[api.MaxDisk-1] != 'x' || data[api.MaxDisk-2] != 0 {
		t.Errorf("Read: %d bytes, %d", len(data), e)
	}
}

// P4.5: a copy does the same, and neither changes the other.
func TestCopy(t *testing.T) {
	begin := func() *Disk {
		d := with(t, 9)
		do(t, d.Put("a", 0, []byte("abc")), d.Put("b", 0, []byte("b")), d.Sync(), d.Put("a", 1, []byte("XY")), d.Remove("b"), d.Fuse(3))
		return d
	}
	holds := func(what string, d *Disk) {
		t.Helper()
		has(t, what, d, "a=aXY")
		has(t, what+", sure", sureOf(d), "a=abc b=b")
		if list := d.Unsure(); len(list) != 2 || string(list[0].Data) != "XY" {
			t.Errorf("%s: Unsure %v", what, list)
		}
		want(t, what+": room", d.Cut("c", 7), api.ErrFull)
		do(t, d.Cut("c", 6), d.Sync())
		want(t, what+": fuse", d.Sync(), api.ErrDown)
	}
	spoil := func(d *Disk) {
		do(t, d.Put("a", 0, []byte("spoil")), d.Put("b", 0, []byte("s")), d.Fall(math.MaxUint64, -1))
		do(t, d.Remove("b"), d.Cut("a", 1), d.Sync(), d.Room(1), d.Fuse(1))
		want(t, "the fuse", d.Sync(), api.ErrDown)
	}
	d := begin()
	c := d.Copy()
	spoil(d)
	holds("the copy", c)
	d = begin()
	spoil(d.Copy())
	holds("what was copied", d)
	// The fuse that holds tried was its last.
	if c = d.Copy(); !c.Down() || c.Used() != 9 || len(c.Unsure()) != 0 {
		t.Errorf("a copy of what is down: %v, %d, %v", c.Down(), c.Used(), c.Unsure())
	}
	do(t, c.Fall(0, -1))
	if !d.Down() || c.Down() {
		t.Error("the copy's fall is the other's")
	}
}

// P4.5: what is handed in is neither changed nor kept.
func TestNotKept(t *testing.T) {
	d := with(t, 9)
	data := []byte("abcdefgh")
	do(t, d.Put("a", 0, data[:3]))
	if string(data) != "abcdefgh" {
		t.Errorf("what was handed in is changed: %s", data)
	}
	copy(data, "XXXXXXXX")
	has(t, "seen", d, "a=abc")
	if list := d.Unsure(); string(list[0].Data) != "abc" {
		t.Errorf("unsure: %s", list[0].Data)
	}
	do(t, d.Fall(1, -1))
	has(t, "sure", d, "a=abc")
}

// P4.5: what is answered is shared neither with the disk nor with another answer.
func TestNotShared(t *testing.T) {
	d := with(t, 9)
	do(t, d.Put("a", 0, []byte("abc")), d.Put("b", 0, nil))
	data, _ := d.Read("a")
	other, _ := d.Read("a")
	names, list := d.Names(), d.Unsure()
	copy(data, "XXX")
	names[0] = "z"
	copy(list[0].Data, "XXX")
	list[1].Name = "z"
	if string(other) != "abc" {
		t.Errorf("another answer: %s", other)
	}
	has(t, "the disk", d, "a=abc b=")
	if list = d.Unsure(); string(list[0].Data) != "abc" || list[1].Name != "b" {
		t.Errorf("unsure: %v", list)
	}
	do(t, d.Fall(math.MaxUint64, -1))
	has(t, "behind a fall", d, "a=abc b=")
}

// P4.5: no disk at all, whatever else is wrong.
func TestNil(t *testing.T) {
	var d *Disk
	for _, name := range []string{"a", "", "A"} {
		for _, n := range []int{0, 1, -1, math.MinInt, math.MaxInt} {
			want(t, "Put", d.Put(name, n, nil), api.ErrArg)
			want(t, "Cut", d.Cut(name, n), api.ErrArg)
			want(t, "Room", d.Room(n), api.ErrArg)
			want(t, "Fuse", d.Fuse(n), api.ErrArg)
			want(t, "Fall", d.Fall(uint64(n), n), api.ErrArg)
		}
		want(t, "Remove", d.Remove(name), api.ErrArg)
		if data, e := d.Read(name); len(data) > 0 || e != api.ErrArg {
			t.Errorf("Read: %x, %d", data, e)
		}
	}
	want(t, "Sync", d.Sync(), api.ErrArg)
	if len(d.Names()) > 0 || len(d.Unsure()) > 0 || d.Used() != 0 || !d.Down() || d.Copy() != nil {
		t.Errorf("%v, %v, %d, %v, %v", d.Names(), d.Unsure(), d.Used(), d.Down(), d.Copy())
	}
}

// P1: a disk that New did not make is an empty one without room.
func TestZero(t *testing.T) {
	var d, c Disk
	has(t, "nothing", &d, "")
	want(t, "a byte", d.Put("a", 0, []byte("x")), api.ErrFull)
	do(t, d.Sync(), d.Remove("a"), d.Fall(1, 0), d.Put("a", 0, nil), d.Cut("b", 0), d.Sync(), d.Copy().Sync())
	has(t, "files without bytes", &d, "a= b=")
	do(t, c.Copy().Put("a", 0, nil), c.Room(1), c.Put("a", 0, []byte("x")), c.Fall(1, -1))
	has(t, "room", &c, "a=x")
}
