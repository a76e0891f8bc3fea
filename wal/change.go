package wal

import "scupper/api"

// In each of cut, drop and reset it is a single change of the disk that makes the log another one, for Open too; what that leaves aside is taken away when the change is sure. Cut and drop make sure first what is ahead of them, as some of it stays.

// cut takes the records from number from on away; there may be none.
func (l *Log) cut(from uint64) api.Errno {
	if e := l.Disk.Sync(); e != api.OK || from == l.Next() {
		return e
	}
	k := l.holds(from)
	s := l.list[k]
	if e := l.surely(l.Disk.Cut(s.name(), s.start(from))); e != api.OK {
		return e
	}
	if e := l.remove(l.list[k+1:]); e != api.OK {
		return e
	}
	s.ends = s.ends[:from-s.first]
	l.list = append(l.list[:k], s)
	return api.OK
}

// drop takes away whole segments of records below number to, and those of the segment with record to, if they are many or no record stays.
func (l *Log) drop(to uint64) api.Errno {
	if e := l.Disk.Sync(); e != api.OK || to <= l.First() {
		return e
	}
	k := l.holds(to)
	s := l.list[k]
	if to == l.Next() || s.start(to) >= maxLeft {
		return l.copyFrom(k, to)
	}
	if s.first == l.First() {
		return api.OK
	}
	return l.begin(segment{label: label{s.era, s.first, true}}, nil, l.list[k:])
}

// copyFrom makes the records from number from on of segment k the log's beginning.
func (l *Log) copyFrom(k int, from uint64) api.Errno {
	s := l.list[k]
	data, e := l.Disk.Read(s.name())
	if e != api.OK {
		return e
	}
	// The file is shorter only if somebody else cut it.
	data = data[min(s.start(from), len(data)):]
	return l.begin(label{s.era, from, true}.read(data), data, l.list[k+1:])
}

// reset takes all records away.
func (l *Log) reset(next uint64) api.Errno {
	s := segment{label: label{first: next, base: true}}
	if len(l.list) > 0 {
		s.era = l.list[0].era + 1
	}
	return l.begin(s, nil, nil)
}

// begin makes s, with the bytes data, the log's beginning, and leaves of the list those behind it that stay.
func (l *Log) begin(s segment, data []byte, stay []segment) api.Errno {
	if e := l.surely(l.Put(s.name(), 0, data)); e != api.OK {
		return e
	}
	if e := l.remove(l.list[:len(l.list)-len(stay)]); e != api.OK {
		return e
	}
	l.list = append([]segment{s}, stay...)
	return api.OK
}

// remove takes files away.
func (l *Log) remove(list []segment) api.Errno {
	if len(list) == 0 {
		return api.OK
	}
	for _, s := range list {
		if e := l.Remove(s.name()); e != api.OK {
			return e
		}
	}
	return l.Disk.Sync()
}

// surely makes sure what a change of the disk did, if that answered OK.
func (l *Log) surely(e api.Errno) api.Errno {
	if e != api.OK {
		return e
	}
	return l.Disk.Sync()
}
