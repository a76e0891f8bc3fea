package msg

import (
	"scupper/api"
)

const (
	// maxPlace is the greatest place of a log, and the greatest term.
	maxPlace = 1 << 62
	// maxEntry is how many bytes an entry has at most.
	maxEntry = api.MaxFrame / 16
	// maxShot is how many bytes a snapshot has at most.
	maxShot = api.MaxFrame / 2
)

func entryKind() kind[api.Entry] {
	return record(entryTied,
		field(whole[uint64](1, maxPlace), func(x *api.Entry) *uint64 { return &x.Index }),
		field(whole[uint64](1, maxPlace), func(x *api.Entry) *uint64 { return &x.Term }),
		field(whole(api.EntryNone, api.EntryConf), func(x *api.Entry) *int { return &x.Kind }),
		field(whole[int64](0, api.MaxTerm), func(x *api.Entry) *int64 { return &x.Delta }),
		field(run[[]byte](maxEntry), func(x *api.Entry) *[]byte { return &x.Data }),
	)
}

func entryTied(x *api.Entry) bool {
	switch x.Kind {
	case api.EntryNone:
		return len(x.Data) == 0
	case api.EntryConf:
		_, e := ToConf(x.Data)
		return e == api.OK
	}
	return true
}

func confKind() kind[api.Conf] {
	ids := list(whole(1, api.MaxNodes), api.MaxNodes)
	return record(confTied,
		field(ids, func(x *api.Conf) *[]int { return &x.Voters }),
		field(ids, func(x *api.Conf) *[]int { return &x.Learners }),
	)
}

func confTied(x *api.Conf) bool {
	return len(x.Voters) > 0 && rises(x.Voters) && rises(x.Learners) && apart(x.Voters, x.Learners)
}

// rises tells whether each number is above the one ahead of it.
func rises(list []int) bool {
	for i := 1; i < len(list); i++ {
		if list[i] <= list[i-1] {
			return false
		}
	}
	return true
}

// apart tells whether two lists that rise have no number in common.
func apart(a, b []int) bool {
	for len(a) > 0 && len(b) > 0 {
		switch {
		case a[0] == b[0]:
			return false
		case a[0] < b[0]:
			a = a[1:]
		default:
			b = b[1:]
		}
	}
	return true
}

func hardKind() kind[api.Hard] {
	return record(free[api.Hard],
		field(number(), func(x *api.Hard) *uint64 { return &x.Term }),
		field(whole(0, api.MaxNodes), func(x *api.Hard) *int { return &x.Vote }),
	)
}

func shotKind() kind[api.Shot] {
	return record(shotTied,
		field(whole[uint64](0, maxPlace), func(x *api.Shot) *uint64 { return &x.Index }),
		field(whole[uint64](0, maxPlace), func(x *api.Shot) *uint64 { return &x.Term }),
		field(confKind(), func(x *api.Shot) *api.Conf { return &x.Conf }),
		field(run[[]byte](maxShot), func(x *api.Shot) *[]byte { return &x.Data }),
	)
}

func shotTied(x *api.Shot) bool { return (x.Index == 0) == (x.Term == 0) }

func msgKind() kind[api.Msg] {
	return record(msgTied,
		field(whole(api.PreAsk, api.Now), func(x *api.Msg) *int { return &x.Kind }),
		field(whole(1, api.MaxNodes), func(x *api.Msg) *int { return &x.From }),
		field(whole(1, api.MaxNodes), func(x *api.Msg) *int { return &x.To }),
		field(number(), func(x *api.Msg) *uint64 { return &x.Term }),
		field(number(), func(x *api.Msg) *uint64 { return &x.Index }),
		field(number(), func(x *api.Msg) *uint64 { return &x.LogTerm }),
		field(number(), func(x *api.Msg) *uint64 { return &x.Commit }),
		field(number(), func(x *api.Msg) *uint64 { return &x.Round }),
		field(flag(), func(x *api.Msg) *bool { return &x.OK }),
		field(list(entryKind(), api.MaxBatch), func(x *api.Msg) *[]api.Entry { return &x.Entries }),
		field(loose(confKind()), func(x *api.Msg) *api.Conf { return &x.Conf }),
		field(whole(0, api.MaxFrame), func(x *api.Msg) *int { return &x.Off }),
		field(run[[]byte](api.MaxChunk), func(x *api.Msg) *[]byte { return &x.Data }),
	)
}

func msgTied(x *api.Msg) bool {
	if x.Kind == api.Chunk {
		return confKind().sound(&x.Conf)
	}
	return len(x.Conf.Voters) == 0 && len(x.Conf.Learners) == 0
}

func commandKind() kind[api.Command] {
	return record(free[api.Command],
		field(number(), func(x *api.Command) *uint64 { return &x.Session }),
		field(number(), func(x *api.Command) *uint64 { return &x.Seq }),
		field(whole(api.OpCap, api.OpPass), func(x *api.Command) *int { return &x.Op }),
		field(run[string](api.MaxKey), func(x *api.Command) *string { return &x.Key }),
		field(signed(), func(x *api.Command) *int64 { return &x.Amount }),
		field(signed(), func(x *api.Command) *int64 { return &x.Span }),
		field(number(), func(x *api.Command) *uint64 { return &x.Lease }),
	)
}

func replyKind() kind[api.Reply] {
	return record(free[api.Reply],
		field(number(), func(x *api.Reply) *uint64 { return &x.Session }),
		field(number(), func(x *api.Reply) *uint64 { return &x.Seq }),
		field(whole(api.OK, api.ErrOrder), func(x *api.Reply) *api.Errno { return &x.E }),
		field(number(), func(x *api.Reply) *uint64 { return &x.Lease }),
		field(signed(), func(x *api.Reply) *int64 { return &x.Amount }),
		field(signed(), func(x *api.Reply) *int64 { return &x.Until }),
	)
}

func askKind() kind[api.Ask] {
	return record(askTied,
		field(flag(), func(x *api.Ask) *bool { return &x.Look }),
		field(flag(), func(x *api.Ask) *bool { return &x.Lazy }),
		field(number(), func(x *api.Ask) *uint64 { return &x.Seq }),
		field(loose(commandKind()), func(x *api.Ask) *api.Command { return &x.Cmd }),
		field(run[string](api.MaxKey), func(x *api.Ask) *string { return &x.Key }),
	)
}

func askTied(x *api.Ask) bool {
	if x.Look {
		return x.Cmd == api.Command{}
	}
	return commandKind().sound(&x.Cmd) && x.Key == "" && !x.Lazy
}

func toldKind() kind[api.Told] {
	return record(free[api.Told],
		field(number(), func(x *api.Told) *uint64 { return &x.Seq }),
		field(flag(), func(x *api.Told) *bool { return &x.Retry }),
		field(whole(0, api.MaxNodes), func(x *api.Told) *int { return &x.Lead }),
		field(replyKind(), func(x *api.Told) *api.Reply { return &x.Reply }),
		field(signed(), func(x *api.Told) *int64 { return &x.Cap }),
		field(signed(), func(x *api.Told) *int64 { return &x.Lent }),
	)
}
