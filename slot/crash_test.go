package slot

import (
	"math"
	"math/rand"
	"slices"
	"strconv"
	"strings"
	"testing"

	"scupper/api"
	"scupper/disk"
)

// none is the value of a slot that has none, as no value may be so long.
var none = strings.Repeat("none", api.MaxFrame)

// valueOf is what a slot has.
func valueOf(t *testing.T, s *Slot) string {
	t.Helper()
	data, e := s.Load()
	if e == api.ErrNone {
		return none
	}
	do(t, e)
	return string(data)
}

// fits holds the files of slot "s" against how many there may be.
func fits(t *testing.T, what string, d *disk.Disk) {
	t.Helper()
	if names, _ := filesOf(d); len(names) > 3 {
		t.Errorf("%s: files %v", what, names)
	}
}

// fall makes a disk of which each change of mask stays, and answers it with the value that it has, which must be one of those allowed.
func fall(t *testing.T, what string, d *disk.Disk, mask uint64, torn int, allowed ...string) (*disk.Disk, string) {
	t.Helper()
	d = d.Copy()
	do(t, d.Fall(mask, torn))
	got := valueOf(t, opened(t, d))
	if !slices.Contains(allowed, got) {
		t.Fatalf("%s, mask %b, torn %d: %s", what, mask, torn, short(got))
	}
	fits(t, what, d)
	again := d.Copy()
	do(t, again.Fall(0, 0))
	if valueOf(t, opened(t, again)) != got {
		t.Errorf("%s, mask %b, torn %d: another value behind another fall", what, mask, torn)
	}
	return d, got
}

// eachFall saves value, with each change failing in turn and each of what is unsure then staying, and goes on with next on what that leaves.
func eachFall(t *testing.T, what string, d *disk.Disk, value string, next func(what string, d *disk.Disk, got string)) {
	t.Helper()
	elder := valueOf(t, opened(t, d))
	for n := 1; ; n++ {
		c := d.Copy()
		s := opened(t, c)
		do(t, c.Fuse(n))
		step := what + ", " + short(value) + " at " + strconv.Itoa(n)
		e := s.Save([]byte(value))
		allowed := []string{elder, value}
		if e == api.OK {
			do(t, c.Fuse(0))
			fits(t, step, c)
			slim(t, step, c, value)
			allowed = []string{value}
		} else {
			want(t, step, e, api.ErrDown)
			isDead(t, step, s)
		}
		for mask := range uint64(1) << len(c.Unsure()) {
			for _, torn := range []int{-1, 0, 1, 7, 8, 9, 40, len(value) + 7} {
				fell, got := fall(t, step, c, mask, torn, allowed...)
				next(step+", mask "+strconv.Itoa(int(mask))+", torn "+strconv.Itoa(torn), fell, got)
			}
		}
		if e == api.OK {
			return
		}
		if n > 10 {
			t.Fatalf("%s: it takes more than ten changes", step)
		}
	}
}

// P6.2: each change of a Save fails in turn; behind that each change of another one; and then a third one goes well. Values of noughts, as a disk lays noughts; longer and shorter ones.
func TestEachFall(t *testing.T) {
	for _, list := range [][]string{
		{"elder", "b", sized('c', 60), "d"},
		{"", sized(0, 60), sized(0, 20), sized(0, 60)},
		{sized(0, 20), sized(0, 60), sized(0, 60), ""},
		{sized('a', 300), sized('b', 300), sized('c', 300), sized('d', 300)},
		{none, "b", sized('c', 50), "a"},
		{none, sized('b', 50), "", ""},
	} {
		d, s := on(t, api.MaxDisk)
		if list[0] != none {
			do(t, s.Save([]byte(list[0])))
		}
		eachFall(t, "first", d, list[1], func(what string, d *disk.Disk, _ string) {
			eachFall(t, what, d, list[2], func(what string, d *disk.Disk, _ string) {
				s := opened(t, d)
				want(t, what+": Save", s.Save([]byte(list[3])), api.OK)
				has(t, what, s, list[3])
				has(t, what+", behind a fall", fallen(t, d), list[3])
				slim(t, what, d, list[3])
			})
		})
	}
}

// P6.2: of a value of any size each torn part leaves the elder one, and all of it the new one.
func TestEachTornPart(t *testing.T) {
	for _, value := range []string{"", "b", sized(0, 300), sized('b', 300)} {
		d, s := on(t, api.MaxDisk)
		do(t, s.Save([]byte("elder")), d.Fuse(2))
		want(t, "Save", s.Save([]byte(value)), api.ErrDown)
		size := len(d.Unsure()[0].Data)
		for torn := range size {
			fall(t, "a part", d, 1, torn, "elder")
		}
		for _, torn := range []int{-1, size, size + 1, math.MaxInt, math.MinInt} {
			fall(t, "all of it", d, 1, torn, value)
		}
	}
}

// P6.2: what others left unsure on the disk ahead of a Save is no matter, however much it is.
func TestUnsureOfOthers(t *testing.T) {
	for _, before := range []int{1, 2, 63, 64, 65, 130} {
		for n := 1; n <= 4; n++ {
			d, s := on(t, api.MaxDisk)
			do(t, s.Save([]byte("elder")))
			for i := range before {
				do(t, d.Put("x"+strconv.Itoa(i%7), i, []byte("other")))
			}
			do(t, d.Fuse(n))
			want(t, "Save", s.Save([]byte("new")), api.ErrDown)
			for bit := range 64 {
				for _, mask := range []uint64{1 << bit, ^(uint64(1) << bit)} {
					fall(t, strconv.Itoa(before)+" changes of others", d, mask, bit-3, "elder", "new")
				}
			}
			do(t, d.Fall(math.MaxUint64, -1))
			saved(t, "behind it", d, opened(t, d), "later")
		}
	}
}

// P6.2, P6.3: random calls, falls and rooms against a plain model: a value, and whether the slot is dead.
func TestRandom(t *testing.T) {
	for seed := range 150 {
		r := rand.New(rand.NewSource(int64(seed)))
		d, s := on(t, api.MaxDisk)
		value := none
		for i := range 40 {
			what := "seed " + strconv.Itoa(seed) + ", step " + strconv.Itoa(i)
			d, s, value = randomStep(t, what, r, d, s, value)
			if t.Failed() {
				return
			}
		}
	}
}

// anyValue is a value of a size that is often an end.
func anyValue(r *rand.Rand) []byte {
	b := make([]byte, []int{0, 1, r.Intn(20), r.Intn(300), r.Intn(3000), 30000, api.MaxFrame - 16, api.MaxFrame - 15}[r.Intn(8)])
	if r.Intn(3) > 0 {
		r.Read(b)
	}
	return b
}

// randomStep saves something, and lets the disk fall at times.
func randomStep(t *testing.T, what string, r *rand.Rand, d *disk.Disk, s *Slot, value string) (*disk.Disk, *Slot, string) {
	t.Helper()
	room := []int{api.MaxDisk, api.MaxDisk, d.Used() + r.Intn(4000), r.Intn(70000)}[r.Intn(4)]
	do(t, d.Room(room), d.Fuse(max(0, r.Intn(12)-6)))
	if r.Intn(3) == 0 {
		d.Put("x", r.Intn(100), []byte("other"))
	}
	if r.Intn(4) == 0 && !d.Down() {
		s = opened(t, d)
	}
	data, allowed, mask := anyValue(r), []string{value}, r.Uint64()|r.Uint64()*uint64(r.Intn(2))
	was := d.Used()
	switch e := s.Save(data); {
	case e == api.OK:
		value, allowed = string(data), []string{string(data)}
		slim(t, what, d, value)
	case len(data) > api.MaxFrame-16:
		want(t, what+": Save of too much", e, api.ErrLarge)
	case e == api.ErrDown:
		isDead(t, what, s)
		if !d.Down() {
			t.Errorf("%s: the disk is up", what)
		}
		d, value = fall(t, what, d, mask, r.Intn(len(data)+20)-1, value, string(data))
		return d, opened(t, d), value
	default:
		want(t, what+": Save", e, api.ErrFull)
		if was+len(data)+64 <= room {
			t.Errorf("%s: ErrFull, and there is room", what)
		}
	}
	if !d.Down() {
		if got := valueOf(t, s); got != value {
			t.Errorf("%s: %s; want %s", what, short(got), short(value))
		}
		fits(t, what, d)
	}
	if d.Down() || r.Intn(5) == 0 {
		d, value = fall(t, what, d, mask, r.Intn(50)-1, allowed...)
		s = opened(t, d)
	}
	return d, s, value
}
