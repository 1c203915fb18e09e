package spool_test

import (
	"slices"
	"strings"

	"postroom/api"
	"postroom/disk"
	"postroom/frame"
	"postroom/ledger"
	"postroom/mark"
	"postroom/segment"
	"postroom/spool"
	"postroom/swap"
)

// A page is a destination by the words alone: of each of its entries, from since on, whether it waits for it.
type page struct {
	name                     string
	since                    uint64
	states                   string
	acked, evicted, rejected uint64
}

const (
	waits  = 'w'
	isDone = 'd'
)

// An account is a ledger by the words alone.
type account struct {
	first, next uint64
	dests       []page
}

func (p page) state(seq uint64) byte {
	if seq < p.since || seq >= p.since+uint64(len(p.states)) {
		return 0
	}
	return p.states[seq-p.since]
}

func (p page) done(seq uint64) page {
	at := seq - p.since
	p.states = p.states[:at] + string(isDone) + p.states[at+1:]
	return p
}

// dest is the page as the ledger has it: Low the first that it waits for, Above what is done above that.
func (p page) dest() ledger.Dest {
	d := ledger.Dest{Name: p.name, Since: p.since, Low: p.since, Acked: p.acked, Evicted: p.evicted, Rejected: p.rejected}
	for p.state(d.Low) == isDone {
		d.Low++
	}
	for seq := d.Low; p.state(seq) != 0; seq++ {
		if p.state(seq) == isDone {
			d.Above = append(d.Above, seq)
		}
	}
	return d
}

func (a account) ledger() ledger.Ledger {
	l := ledger.Ledger{First: a.first, Next: a.next}
	for _, p := range a.dests {
		l.Dests = append(l.Dests, p.dest())
	}
	return l
}

func accountOf(l ledger.Ledger) account {
	a := account{first: l.First, next: l.Next}
	for _, d := range l.Dests {
		p := page{name: d.Name, since: d.Since, acked: d.Acked, evicted: d.Evicted, rejected: d.Rejected}
		for seq := d.Since; seq < l.Next; seq++ {
			state := waits
			if seq < d.Low || slices.Contains(d.Above, seq) {
				state = isDone
			}
			p.states += string(state)
		}
		a.dests = append(a.dests, p)
	}
	return a
}

// upTo is an account whose Next is another one. It is none, if something is done then that does not come in yet.
func (a account) upTo(next uint64) (account, bool) {
	a.dests, a.next = slices.Clone(a.dests), next
	for i, p := range a.dests {
		many := int(next - p.since)
		if p.since > next || len(p.states) > many && strings.ContainsRune(p.states[many:], isDone) {
			return account{}, false
		}
		p.states = (p.states + strings.Repeat(string(waits), many))[:many]
		a.dests[i] = p
	}
	return a, true
}

func (a account) place(name string) int {
	return slices.IndexFunc(a.dests, func(p page) bool { return p.name == name })
}

func (a account) evicted(to uint64) account {
	a.dests, a.first = slices.Clone(a.dests), to
	for i, p := range a.dests {
		for seq := p.since; seq < to; seq++ {
			if p.state(seq) == waits {
				p = p.done(seq)
				p.evicted++
			}
		}
		a.dests[i] = p
	}
	return a
}

// somebodyWaits tells whether a number below one is pending for some destination.
func (a account) somebodyWaits(below uint64) bool {
	for seq := range below {
		for _, p := range a.dests {
			if p.state(seq) == waits {
				return true
			}
		}
	}
	return false
}

// A book is a spool by the words alone, on its own disk: it has an account as its ledger, all bodies that
// came in, and what the mark may be.
type book struct {
	d      *disk.Disk
	c      spool.Config
	log    *segment.Log
	now    account
	marks  []account
	bodies map[uint64]string
	dead   bool // an operation told ErrDead: nothing is promised of the spool any more
}

func openByHand(d *disk.Disk, c spool.Config) (*book, api.Errno) {
	if c.Segment < 1 || c.Segment > c.Budget || c.Budget < 2016 {
		return nil, api.ErrArg
	}
	if e := swap.Clean(d); e != api.OK {
		return nil, e
	}
	l := ledger.New()
	text, e := d.Read("ck")
	if e == api.OK {
		l, e = mark.Take(text)
	} else if e == api.ErrNone {
		e = api.OK
	}
	if e != api.OK {
		return nil, e
	}
	log, e := segment.Open(d)
	if e != api.OK {
		return nil, e
	}
	for len(log.Segs()) > 1 && log.Segs()[0].First < l.First {
		if e := log.Drop(); e != api.OK {
			return nil, e
		}
	}
	now, ok := accountOf(l).upTo(log.Next())
	if !ok || log.Segs()[0].First != l.First {
		return nil, api.ErrForm
	}
	return &book{d: d, c: c, log: log, now: now, marks: []account{now}, bodies: bodiesOf(d, log)}, api.OK
}

func bodiesOf(d *disk.Disk, log *segment.Log) map[uint64]string {
	if !hasPower(d) { // to look at it, there is power for a while
		d.Stop(-1)
		defer d.Stop(0)
	}
	out := map[uint64]string{}
	for seq := log.Segs()[0].First; seq < log.Next(); seq++ {
		out[seq], _ = log.Get(seq)
	}
	return out
}

// note writes down that an operation told ErrDead.
func (b *book) note(e api.Errno) api.Errno {
	b.dead = b.dead || e == api.ErrDead
	return e
}

// turn marks an account, which is the ledger's then.
func (b *book) turn(a account) api.Errno {
	text, e := mark.Put(a.ledger())
	if e == api.OK {
		e = b.note(swap.Write(b.d, "ck", text))
	}
	switch e {
	case api.OK:
		b.now, b.marks = a, []account{a}
	case api.ErrDead: // it may be there, or not
		b.marks = append(b.marks, a)
	}
	return e
}

func (b *book) evict() api.Errno {
	if e := b.turn(b.now.evicted(b.log.Segs()[1].First)); e != api.OK {
		return e
	}
	return b.note(b.log.Drop())
}

func (b *book) room() api.Errno {
	for b.log.Bytes() > b.c.Budget && len(b.log.Segs()) > 1 {
		if e := b.evict(); e != api.OK {
			return e
		}
	}
	return api.OK
}

func (b *book) Add(body string, sync bool) (uint64, api.Errno) {
	seq, e := b.put(body, sync)
	if e != api.OK {
		return 0, e
	}
	b.now, _ = b.now.upTo(b.now.next + 1)
	b.bodies[seq] = body
	b.room()
	return seq, api.OK
}

func (b *book) put(body string, sync bool) (uint64, api.Errno) {
	if len(body) > 2000 {
		return 0, api.ErrLong
	}
	if e := b.room(); e != api.OK {
		return 0, e
	}
	active := b.log.Segs()[len(b.log.Segs())-1]
	bytes, _ := frame.Put(b.log.Next(), body)
	if active.Many > 0 && active.Size+len(bytes) > b.c.Segment {
		if e := b.note(b.log.Roll()); e != api.OK {
			return 0, e
		}
	}
	if sync {
		if e := b.note(b.log.Sync()); e != api.OK {
			return 0, e
		}
	}
	seq, e := b.log.Append(body)
	if b.note(e) != api.OK {
		return 0, e
	}
	if sync {
		if e := b.note(b.log.Sync()); e != api.OK {
			b.note(b.log.Undo())
			return 0, e
		}
	}
	return seq, api.OK
}

func (b *book) Sync() api.Errno { return b.note(b.log.Sync()) }

func (b *book) Ack(name string, seq uint64) api.Errno {
	a, e := b.done(name, seq, func(p *page) { p.acked++ })
	if e == api.OK {
		b.now = a
	}
	return e
}

func (b *book) Reject(name string, seq uint64) api.Errno {
	a, e := b.done(name, seq, func(p *page) { p.rejected++ })
	if e != api.OK {
		return e
	}
	return b.turn(a)
}

func (b *book) done(name string, seq uint64, count func(*page)) (account, api.Errno) {
	a, at := b.now, b.now.place(name)
	if at < 0 {
		return account{}, api.ErrNone
	}
	a.dests = slices.Clone(a.dests)
	p := &a.dests[at]
	if seq >= b.log.Durable() || p.state(seq) != waits {
		return account{}, api.ErrState
	}
	*p = p.done(seq)
	count(p)
	return a, api.OK
}

func (b *book) Join(name string) api.Errno {
	switch {
	case len(name) != 1 || name < "a" || name > "z": // of those that are tried
		return api.ErrName
	case b.now.place(name) >= 0:
		return api.ErrThere
	case len(b.now.dests) == 4:
		return api.ErrMany
	}
	if e := b.note(b.log.Sync()); e != api.OK {
		return e
	}
	a := b.now
	a.dests = append(slices.Clone(a.dests), page{name: name, since: a.next})
	return b.turn(a)
}

func (b *book) Leave(name string) api.Errno {
	a, at := b.now, b.now.place(name)
	if at < 0 {
		return api.ErrNone
	}
	a.dests = slices.Delete(slices.Clone(a.dests), at, at+1)
	return b.turn(a)
}

func (b *book) Save() api.Errno { return b.turn(b.now) }

func (b *book) Reclaim() api.Errno {
	for len(b.log.Segs()) > 1 && !b.now.somebodyWaits(b.log.Segs()[1].First) {
		if e := b.evict(); e != api.OK {
			return e
		}
	}
	return api.OK
}

// said is all that the spool must tell; without power it tells an error for each body.
func (b *book) said() string {
	return saying(b.now.ledger(), b.log.Durable(), b.log.Bytes(), func(seq uint64) (string, api.Errno) {
		if !hasPower(b.d) {
			return "", api.ErrDead
		}
		return b.bodies[seq], api.OK
	})
}
