package spool

import (
	"postroom/api"
	"postroom/ledger"
	"postroom/mark"
	"postroom/segment"
	"postroom/swap"
)

const markName = "ck"

// become marks a ledger that no error stands beside, and has it then. It takes both, so that it can be handed what a call tells.
func (s *Spool) become(l ledger.Ledger, e api.Errno) api.Errno {
	if e != api.OK {
		return e
	}
	text, e := mark.Put(l)
	if e != api.OK {
		return e
	}
	if e := swap.Write(s.disk, markName, text); e != api.OK {
		return e
	}
	s.owed = l
	return api.OK
}

func (s *Spool) makeRoom() api.Errno {
	return s.evictTill(func(_, _ segment.Seg) bool { return s.log.Bytes() <= s.config.Budget })
}

func (s *Spool) evictTill(enough func(first, second segment.Seg) bool) api.Errno {
	return s.till(enough, func(second segment.Seg) api.Errno { return s.evict(second.First) })
}

// evict gives up what is below a number. It is marked ahead of that, so that what is gone is counted whenever the power goes.
func (s *Spool) evict(to uint64) api.Errno {
	if e := s.become(ledger.Evict(s.owed, to)); e != api.OK {
		return e
	}
	return s.log.Drop()
}

// till does a thing, which is handed the second segment, as long as there is one, and a closure, which is
// handed the first two, tells that it is not enough yet. It ends at the first error.
func (s *Spool) till(enough func(first, second segment.Seg) bool, do func(second segment.Seg) api.Errno) api.Errno {
	for {
		l := s.log.Segs()
		if len(l) == 1 || enough(l[0], l[1]) {
			return api.OK
		}
		if e := do(l[1]); e != api.OK {
			return e
		}
	}
}
