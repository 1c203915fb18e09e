package spool

import (
	"postroom/api"
	"postroom/ledger"
	"postroom/mark"
	"postroom/segment"
	"postroom/swap"
)

// open finds the mark and the log of the disk, and makes one of them.
func (s *Spool) open() api.Errno {
	if e := swap.Clean(s.disk); e != api.OK {
		return e
	}
	owed, e := s.marked()
	if e != api.OK {
		return e
	}
	log, e := segment.Open(s.disk)
	if e != api.OK {
		return e
	}
	s.owed, s.log = owed, log
	return s.meet()
}

func (s *Spool) marked() (ledger.Ledger, api.Errno) {
	text, e := s.disk.Read(markName)
	switch e {
	case api.OK:
		return mark.Take(text)
	case api.ErrNone:
		return ledger.New(), api.OK
	}
	return ledger.Ledger{}, e
}

// meet ends an eviction in whose midst the power went, and lets the ledger have the bodies that came in since it was marked.
func (s *Spool) meet() api.Errno {
	e := s.till(
		func(first, _ segment.Seg) bool { return first.First >= s.owed.First },
		func(segment.Seg) api.Errno { return s.log.Drop() },
	)
	if e != api.OK {
		return e
	}
	s.owed.Next = s.log.Next()
	if s.log.Segs()[0].First != s.owed.First || !ledger.Right(s.owed) {
		return api.ErrForm
	}
	return api.OK
}
