package disk

import (
	"bytes"

	"scupper/api"
)

// The kinds of changes.
const (
	kindPut = 1 + iota
	kindCut
	kindRemove
)

// sizeBehind tells how many bytes a file of size bytes has behind w.
func sizeBehind(size int, w api.Write) int {
	switch w.Kind {
	case kindPut:
		return max(size, w.Off+len(w.Data))
	case kindCut:
		return w.Off
	}
	return 0
}

// staying answers those changes that stay by mask; their bytes are still those of list.
func staying(list []api.Write, mask uint64) []api.Write {
	var out []api.Write
	for k, w := range list {
		if mask>>(k%64)&1 == 1 {
			out = append(out, w)
		}
	}
	return out
}

// tear leaves just the first torn bytes of the last Put, if it has more.
func tear(list []api.Write, torn int) {
	for i := len(list) - 1; i >= 0; i-- {
		w := &list[i]
		if w.Kind != kindPut {
			continue
		}
		if 0 <= torn && torn < len(w.Data) {
			w.Data = w.Data[:torn]
		}
		return
	}
}

// cloneWrites answers the same changes in new memory.
func cloneWrites(list []api.Write) []api.Write {
	var out []api.Write
	for _, w := range list {
		w.Data = bytes.Clone(w.Data)
		out = append(out, w)
	}
	return out
}
