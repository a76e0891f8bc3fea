package slot

import (
	"strconv"

	"scupper/api"
	"scupper/codec"
)

// turnCount is how many names a slot has for its files. Each value goes to the file of the turn behind the elder one's, and behind the last turn comes the first. As there are three, it is plain of any two files which one is the elder.
const turnCount = 3

// noTurn is the turn of no file; the first one is behind it.
const noTurn = -1

// file is what the disk has of one turn.
type file struct {
	there bool
	whole bool   // it has a value's frame, and nothing else
	value []byte // if it is whole
}

// files answers what the disk has of each turn.
func (s *Slot) files() (list [turnCount]file, e api.Errno) {
	for turn := range turnCount {
		data, e := s.Read(s.path(turn))
		switch e {
		case api.OK:
			list[turn] = toFile(data)
		case api.ErrNone:
		default:
			return [turnCount]file{}, e
		}
	}
	return list, api.OK
}

// path is the name of the file of a turn.
func (s *Slot) path(turn int) string { return s.name + "." + strconv.Itoa(turn) }

func toFile(data []byte) file {
	value, end, e := codec.Unframe(data, 0)
	if e != api.OK || end != len(data) {
		return file{there: true}
	}
	return file{there: true, whole: true, value: value}
}

// behind is the turn that comes behind another one.
func behind(turn int) int { return (turn + 1) % turnCount }

// latest is the turn of the value that was saved last: of the whole file behind which there is no other whole one.
func latest(list [turnCount]file) int {
	for turn, f := range list {
		if f.whole && !list[behind(turn)].whole {
			return turn
		}
	}
	return noTurn
}

// aside answers the turns of all files but one's: of what a fall left beside the value.
func aside(list [turnCount]file, value int) []int {
	var turns []int
	for turn, f := range list {
		if f.there && turn != value {
			turns = append(turns, turn)
		}
	}
	return turns
}
