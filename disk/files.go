package disk

import (
	"maps"
	"slices"

	"scupper/api"
)

// pieceSize is how many bytes a piece of a file has.
const pieceSize = 256

// piece is an array, so that a copy of a map of pieces has their bytes too.
type piece [pieceSize]byte

// file is a file's bytes in pieces, by their numbers. A piece of noughts alone need not be there: a fall may leave many files that are nearly all noughts, of more bytes together than there ever was room for.
type file struct {
	size   int
	pieces map[int]piece
}

// put lays data at place off, with noughts ahead of it if the file was shorter.
func (f *file) put(off int, data []byte) {
	f.size = max(f.size, off+len(data))
	if f.pieces == nil {
		f.pieces = map[int]piece{}
	}
	for len(data) > 0 {
		i, at := off/pieceSize, off%pieceSize
		p := f.pieces[i]
		n := copy(p[at:], data)
		f.pieces[i] = p
		off, data = off+n, data[n:]
	}
}

// cut leaves the first n bytes, with noughts behind them if the file was shorter.
func (f *file) cut(n int) {
	f.size = n
	for i := range f.pieces {
		if i*pieceSize >= n {
			delete(f.pieces, i)
		}
	}
	// What lay behind the end must not be seen again where the file grows later on.
	if p, there := f.pieces[n/pieceSize]; there {
		clear(p[n%pieceSize:])
		f.pieces[n/pieceSize] = p
	}
}

// bytes answers the file's bytes.
func (f *file) bytes() []byte {
	out := make([]byte, f.size)
	for i, p := range f.pieces {
		copy(out[i*pieceSize:], p[:])
	}
	return out
}

// files are files by their names.
type files struct {
	byName map[string]file
	used   int // bytes of all of them
}

// do does a change, without asking whether it may be.
func (f *files) do(w api.Write) {
	x := f.byName[w.Name]
	f.used += sizeBehind(x.size, w) - x.size
	switch w.Kind {
	case kindPut:
		x.put(w.Off, w.Data)
	case kindCut:
		x.cut(w.Off)
	case kindRemove:
		delete(f.byName, w.Name)
		return
	}
	if f.byName == nil {
		f.byName = map[string]file{}
	}
	f.byName[w.Name] = x
}

// names answers all names, rising.
func (f *files) names() []string { return slices.Sorted(maps.Keys(f.byName)) }

// clone answers the same files in new memory.
func (f *files) clone() files {
	out := files{byName: map[string]file{}, used: f.used}
	for name, x := range f.byName {
		out.byName[name] = file{size: x.size, pieces: maps.Clone(x.pieces)}
	}
	return out
}
