package core

import "scupper/api"

// times are the times of a setting, and those of a node by its own clock.
type times struct {
	least, spread, every, rho int64
	now                       int64
	heard                     int64 // when it last knew that somebody leads
	due                       int64 // when it asks for votes, if it hears of nobody
}

func newTimes(s api.Setting, now int64) times {
	return times{least: s.Base, spread: s.Spread, every: s.Beat, rho: s.Rho, now: now, heard: now}
}

// mayBe tells whether the setting's times may be.
func mayBe(s api.Setting) bool {
	return s.Rho >= 0 && s.Rho <= api.MaxRho && isTime(s.Base) && isTime(s.Spread) && isTime(s.Beat)
}

func isTime(n int64) bool { return n >= 1 && n <= maxTime }

// goOn lets its clock go on; a clock that is said to go back stands.
func (t *times) goOn(now int64) { t.now = max(t.now, now) }

// wait answers how long it waits for somebody who leads.
func (t *times) wait(draw uint64) int64 { return t.least + int64(draw%uint64(t.spread+1)) }

// rest puts off what it does by itself.
func (t *times) rest(wait int64) { t.due = t.now + wait }

// sure tells whether it is sure that somebody leads.
func (t *times) sure() bool { return t.now-t.heard < t.least }
