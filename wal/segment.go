package wal

import (
	"cmp"
	"math"
	"strconv"
	"strings"

	"scupper/api"
	"scupper/codec"
)

// prefix is what the names of the log's files begin with.
const prefix = "w."

// digits is how many digits numbers in names are made of: so many that a name is short enough with the greatest numbers.
const digits = 36

// label tells which records a file has. It stands in the file's name alone, so that it is there with the file, whole, and needs no room.
type label struct {
	era   uint64 // one more behind each Reset of records
	first uint64 // the number of its first record
	base  bool   // the log begins with this file: what has smaller numbers, or an elder era, is gone
}

func (x label) name() string {
	s := prefix + strconv.FormatUint(x.era, digits) + "." + strconv.FormatUint(x.first, digits)
	if x.base {
		s += ".b"
	}
	return s
}

// toLabel answers what a name tells; a name that is no label's tells of no record, as none has the number 0.
func toLabel(name string) label {
	parts := strings.Split(name, ".")
	if len(parts) < 3 {
		return label{}
	}
	// A part that is no number comes to another one, and so to another name.
	era, _ := strconv.ParseUint(parts[1], digits, 64)
	first, _ := strconv.ParseUint(parts[2], digits, 64)
	x := label{era: era, first: first, base: len(parts) > 3}
	if x.first == 0 || x.name() != name {
		return label{}
	}
	return x
}

// compare puts labels in the order of their records, and a base ahead of what follows it.
func (x label) compare(y label) int {
	return cmp.Or(cmp.Compare(x.era, y.era), cmp.Compare(x.first, y.first), cmp.Compare(x.rank(), y.rank()))
}

func (x label) rank() int {
	if x.base {
		return 0
	}
	return 1
}

// read answers the segment of those records that stand whole at the beginning of data.
func (x label) read(data []byte) segment {
	s := segment{label: x}
	// Behind the greatest number there is none for Next.
	for s.next() < math.MaxUint64 {
		_, end, e := codec.Unframe(data, s.size())
		if e != api.OK {
			break
		}
		s.ends = append(s.ends, end)
	}
	return s
}

// segment is a file of the log: its records, each as a frame, one behind the other.
type segment struct {
	label
	ends []int // where in the file each record ends
}

// next is the number of the record behind the last one.
func (s segment) next() uint64 { return s.first + uint64(len(s.ends)) }

// start is where in the file record i begins, or would.
func (s segment) start(i uint64) int {
	if i == s.first {
		return 0
	}
	return s.ends[i-s.first-1]
}

// size is how many bytes the records take.
func (s segment) size() int { return s.start(s.next()) }
