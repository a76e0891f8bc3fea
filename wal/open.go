package wal

import (
	"slices"
	"strings"

	"scupper/api"
	"scupper/disk"
)

// file is a file that Open finds.
type file struct {
	segment
	name   string
	length int
}

// Open answers the log that is on a disk.
func Open(d *disk.Disk) (*Log, api.Errno) {
	switch {
	case d == nil:
		return nil, api.ErrArg
	case d.Down():
		return nil, api.ErrDown
	}
	l := &Log{Disk: d}
	stay, rest := chain(l.find())
	if e := l.mend(stay, rest); e != api.OK {
		return nil, e
	}
	for _, f := range stay {
		l.list = append(l.list, f.segment)
	}
	return l, api.OK
}

// find answers the files with names of the log's, in the order of their records.
func (l *Log) find() []file {
	var list []file
	for _, name := range l.Names() {
		if !strings.HasPrefix(name, prefix) {
			continue
		}
		data, _ := l.Disk.Read(name) // it is there, as the disk is up
		list = append(list, file{toLabel(name).read(data), name, len(data)})
	}
	slices.SortFunc(list, func(x, y file) int { return x.compare(y.label) })
	return list
}

// chain answers the files that are the log, from its beginning on, and those that are not.
func chain(list []file) (stay, rest []file) {
	begin := beginning(list)
	for i, f := range list {
		if i == begin || i > begin && f.follows(stay[len(stay)-1].segment) {
			stay = append(stay, f)
		} else {
			rest = append(rest, f)
		}
	}
	return stay, rest
}

// beginning is the place in list of the file that the log begins with; len(list), if there is no log.
func beginning(list []file) int {
	for i := len(list) - 1; i >= 0; i-- {
		if list[i].base && (i == 0 || !list[i].isTorn(list[i-1].segment)) {
			return i
		}
	}
	return len(list)
}

// isTorn tells whether f was to hold the last records of the file ahead of it, but a fall left not all of them. Then that is still there, as it goes only when f is sure.
func (f file) isTorn(x segment) bool { return f.era == x.era && f.next() < x.next() }

func (f file) follows(x segment) bool { return f.era == x.era && f.first == x.next() }

// mend takes off the disk what is not the log, so that it does not come to light again when the log has grown up to it.
func (l *Log) mend(stay, rest []file) api.Errno {
	changes := 0
	for _, f := range rest {
		if e := l.Remove(f.name); e != api.OK {
			return e
		}
		changes++
	}
	for _, f := range stay {
		if f.length == f.size() {
			continue
		}
		if e := l.Disk.Cut(f.name, f.size()); e != api.OK {
			return e
		}
		changes++
	}
	if changes == 0 {
		return api.OK
	}
	return l.Disk.Sync()
}
