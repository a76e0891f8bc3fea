package post

import "scupper/api"

// way leads from one end to another one; not back.
type way struct{ from, to int }

// isSound tells whether there is such a way.
func (w way) isSound() bool { return isEnd(w.from) && isEnd(w.to) && w.from != w.to }

// isEnd tells whether n is a node's number, or an edge's.
func isEnd(n int) bool { return n != 0 && -api.MaxEdges <= n && n <= api.MaxNodes }

// letter is data on its way. The data is a string, which nobody can change: so a twin, or a copy, can't be told from one with bytes of its own.
type letter struct {
	way
	data string
}
