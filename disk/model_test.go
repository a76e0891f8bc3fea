package disk

import (
	"bytes"
	"maps"
	"math/rand"
	"slices"
	"strconv"
	"strings"
	"testing"

	"scupper/api"
)

// model is a disk as the chapter tells it, without a thought of memory: lists of bytes are never changed, only replaced.
type model struct {
	seen, sure map[string]string
	unsure     []api.Write
	room, fuse int
	down       bool
}

func newModel(room int) *model {
	return &model{seen: map[string]string{}, sure: map[string]string{}, room: room}
}

// played is a set of files behind a change.
func played(files map[string]string, w api.Write) map[string]string {
	out := maps.Clone(files)
	old := out[w.Name]
	switch w.Kind {
	case 1:
		padded := old + strings.Repeat("\x00", max(0, w.Off+len(w.Data)-len(old)))
		out[w.Name] = padded[:w.Off] + string(w.Data) + padded[w.Off+len(w.Data):]
	case 2:
		out[w.Name] = (old + strings.Repeat("\x00", max(0, w.Off-len(old))))[:w.Off]
	case 3:
		delete(out, w.Name)
	}
	return out
}

func total(files map[string]string) int {
	n := 0
	for _, data := range files {
		n += len(data)
	}
	return n
}

// burns tells whether it is the fuse's turn.
func (m *model) burns() bool {
	if m.fuse == 0 {
		return false
	}
	m.fuse--
	m.down = m.fuse == 0
	return m.down
}

func (m *model) change(w api.Write) api.Errno {
	if m.down {
		return api.ErrDown
	}
	if len(w.Name) < 1 || len(w.Name) > api.MaxName || strings.Trim(w.Name, "abcdefghijklmnopqrstuvwxyz0123456789.") != "" || w.Off < 0 || w.Off > api.MaxDisk {
		return api.ErrArg
	}
	if w.Kind == 1 && w.Off+len(w.Data) > api.MaxDisk || total(played(m.seen, w)) > max(m.room, total(m.seen)) {
		return api.ErrFull
	}
	if m.burns() {
		return api.ErrDown
	}
	m.unsure = append(m.unsure, w)
	m.seen = played(m.seen, w)
	return api.OK
}

func (m *model) sync() api.Errno {
	if m.down || m.burns() {
		return api.ErrDown
	}
	m.sure, m.unsure = m.seen, nil
	return api.OK
}

func (m *model) fall(mask uint64, torn int) {
	last := -1
	for k, w := range m.unsure {
		if mask>>(k%64)&1 == 1 && w.Kind == 1 {
			last = k
		}
	}
	for k, w := range m.unsure {
		if mask>>(k%64)&1 == 0 {
			continue
		}
		if k == last && torn >= 0 && torn < len(w.Data) {
			w.Data = w.Data[:torn]
		}
		m.sure = played(m.sure, w)
	}
	m.seen, m.unsure, m.fuse, m.down = m.sure, nil, 0, false
}

// pair is a disk and its model.
type pair struct {
	d *Disk
	m *model
}

// copied is the same again, with nothing in common; a model's parts are never changed in place.
func (p pair) copied() pair {
	m := *p.m
	m.unsure = slices.Clone(m.unsure)
	return pair{p.d.Copy(), &m}
}

func anyName(r *rand.Rand) string {
	list := []string{"a", "b", "c", "a.1", "w.9", ".", "A", "", strings.Repeat("z", api.MaxName), strings.Repeat("z", api.MaxName+1)}
	return list[r.Intn(len(list))]
}

func anyPlace(r *rand.Rand) int {
	list := []int{0, 0, 1, 2, r.Intn(20), r.Intn(700), 255, 256, 257, 512, -1, api.MaxDisk, api.MaxDisk + 1}
	return list[r.Intn(len(list))]
}

func anyBytes(r *rand.Rand) []byte {
	b := make([]byte, []int{0, 1, 2, 5, 255, 256, 300}[r.Intn(7)])
	r.Read(b)
	return b
}

// step does a step to both, and answers what they answer.
func (p pair) step(r *rand.Rand) (what string, got, e api.Errno) {
	name, n, data := anyName(r), anyPlace(r), anyBytes(r)
	what = strconv.Quote(name) + " " + strconv.Itoa(n) + " " + strconv.Itoa(len(data))
	switch k := r.Intn(40); {
	case k < 14:
		return "Put " + what, p.d.Put(name, n, data), p.m.change(api.Write{Kind: 1, Name: name, Off: n, Data: data})
	case k < 22:
		return "Cut " + what, p.d.Cut(name, n), p.m.change(api.Write{Kind: 2, Name: name, Off: n})
	case k < 28:
		return "Remove " + what, p.d.Remove(name), p.m.change(api.Write{Kind: 3, Name: name})
	case k < 31:
		return "Sync", p.d.Sync(), p.m.sync()
	case k < 33:
		p.m.fuse = r.Intn(9)
		return "Fuse", p.d.Fuse(p.m.fuse), api.OK
	case k < 36:
		p.m.room = r.Intn(2000)
		return "Room", p.d.Room(p.m.room), api.OK
	}
	mask, torn := r.Uint64(), r.Intn(12)-2
	p.m.fall(mask, torn)
	return "Fall " + strconv.FormatUint(mask, 16) + " " + strconv.Itoa(torn), p.d.Fall(mask, torn), api.OK
}

// same holds all that a disk tells against its model.
func (p pair) same(t *testing.T) bool {
	names := slices.Sorted(maps.Keys(p.m.seen))
	if p.m.down {
		names = nil
	}
	if p.d.Down() != p.m.down || p.d.Used() != total(p.m.seen) || !slices.Equal(p.d.Names(), names) || !sameWrites(p.d.Unsure(), p.m.unsure) {
		t.Errorf("Down %v, Used %d, Names %v, %d unsure; want %v, %d, %v, %d", p.d.Down(), p.d.Used(), p.d.Names(), len(p.d.Unsure()), p.m.down, total(p.m.seen), names, len(p.m.unsure))
		return false
	}
	for name, text := range p.m.seen {
		data, e := p.d.Read(name)
		if p.m.down {
			text = ""
		}
		if (e == api.ErrDown) != p.m.down || !p.m.down && e != api.OK || string(data) != text {
			t.Errorf("Read(%q): %d bytes, %d; want %d bytes", name, len(data), e, len(text))
			return false
		}
	}
	return true
}

// P4.1 to P4.5: any calls in any order, some of them to copies, while what was copied stays as it is.
func TestAgainstModel(t *testing.T) {
	for seed := range int64(300) {
		r := rand.New(rand.NewSource(seed))
		room := r.Intn(2000)
		d, e := New(room)
		want(t, "New", e, api.OK)
		p := pair{d, newModel(room)}
		left := p.copied()
		for i := range 200 {
			if r.Intn(20) == 0 {
				if !left.same(t) {
					t.Fatalf("seed %d, step %d: what was copied is changed", seed, i)
				}
				left, p = p, p.copied()
			}
			what, got, e := p.step(r)
			if got != e || !p.same(t) {
				t.Fatalf("seed %d, step %d: %s: %d; want %d", seed, i, what, got, e)
			}
		}
	}
}

// R5: the same calls, done again from the beginning, have the same answers.
func TestAgain(t *testing.T) {
	run := func() (out []byte) {
		r := rand.New(rand.NewSource(5))
		d, _ := New(5000)
		p := pair{d, newModel(5000)}
		for range 300 {
			_, got, _ := p.step(r)
			out = append(out, byte(got), byte(d.Used()), byte(len(d.Unsure())))
			for _, name := range d.Names() {
				data, _ := d.Read(name)
				out = append(append(out, name...), data...)
			}
		}
		return out
	}
	if !bytes.Equal(run(), run()) {
		t.Error("not the same again")
	}
}
