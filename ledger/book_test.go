package ledger_test

import (
	"fmt"
	"math/rand"
	"slices"
	"testing"

	"postroom/api"
	"postroom/ledger"
)

// A book is a ledger by the words alone: of each destination it writes down the state of each of its entries.
type book struct {
	first, next uint64
	dests       []page
}

// A page is a destination; the first of its states is that of its entry since.
type page struct {
	name   string
	since  uint64
	states string
}

const (
	pending = 'p'
)

func newBook() book { return book{first: 1, next: 1} }

func (b book) page(name string) int {
	return slices.IndexFunc(b.dests, func(p page) bool { return p.name == name })
}

func (p page) state(seq uint64) byte {
	if seq < p.since || seq >= p.since+uint64(len(p.states)) {
		return 0
	}
	return p.states[seq-p.since]
}

func (p page) with(seq uint64, state byte) page {
	at := seq - p.since
	p.states = p.states[:at] + string(state) + p.states[at+1:]
	return p
}

func (p page) pending() []uint64 {
	var out []uint64
	for i := range p.states {
		if p.states[i] == pending {
			out = append(out, p.since+uint64(i))
		}
	}
	return out
}

func (p page) count(state byte) uint64 {
	n := uint64(0)
	for i := range p.states {
		if p.states[i] == state {
			n++
		}
	}
	return n
}

// dest is the page as the ledger has it: Low the first that is not done, Above what is done above that.
func (p page) dest() ledger.Dest {
	d := ledger.Dest{Name: p.name, Since: p.since, Low: p.since + uint64(len(p.states)), Acked: p.count('a'), Evicted: p.count('e'), Rejected: p.count('r')}
	if l := p.pending(); len(l) > 0 {
		d.Low = l[0]
	}
	for seq := d.Low; p.state(seq) != 0; seq++ {
		if p.state(seq) != pending {
			d.Above = append(d.Above, seq)
		}
	}
	return d
}

func (b book) ledger() ledger.Ledger {
	l := ledger.Ledger{First: b.first, Next: b.next}
	for _, p := range b.dests {
		l.Dests = append(l.Dests, p.dest())
	}
	return l
}

func (b book) free() uint64 {
	for seq := range b.next {
		for _, p := range b.dests {
			if p.state(seq) == pending {
				return seq
			}
		}
	}
	return b.next
}

// An act is one call that makes another ledger, with all that it may be handed.
type act struct {
	op   string
	name string
	seq  uint64
	kind byte
}

func (a act) String() string { return fmt.Sprintf("%s(%q %d %q)", a.op, a.name, a.seq, a.kind) }

func (a act) of(l ledger.Ledger) (ledger.Ledger, api.Errno) {
	switch a.op {
	case "Join":
		return ledger.Join(l, a.name)
	case "Leave":
		return ledger.Leave(l, a.name)
	case "Done":
		return ledger.Done(l, a.name, a.seq, a.kind)
	case "Evict":
		return ledger.Evict(l, a.seq)
	}
	return ledger.Add(l), api.OK
}

// by is what stands in the book behind an act.
func (b book) by(a act) (book, api.Errno) {
	at := b.page(a.name)
	b.dests = slices.Clone(b.dests)
	switch a.op {
	case "Add":
		b.next++
		for i := range b.dests {
			b.dests[i].states += string(pending)
		}
	case "Join":
		switch {
		case len(a.name) != 1 || a.name < "a" || a.name > "z": // of those that are tried
			return book{}, api.ErrName
		case at >= 0:
			return book{}, api.ErrThere
		case len(b.dests) == 4:
			return book{}, api.ErrMany
		}
		b.dests = append(b.dests, page{name: a.name, since: b.next})
	case "Leave":
		if at < 0 {
			return book{}, api.ErrNone
		}
		b.dests = slices.Delete(b.dests, at, at+1)
	case "Done":
		switch {
		case at < 0:
			return book{}, api.ErrNone
		case a.kind != 'a' && a.kind != 'r':
			return book{}, api.ErrArg
		case b.dests[at].state(a.seq) != pending:
			return book{}, api.ErrState
		}
		b.dests[at] = b.dests[at].with(a.seq, a.kind)
	case "Evict":
		if a.seq < b.first || a.seq > b.next {
			return book{}, api.ErrArg
		}
		b.first = a.seq
		for i, p := range b.dests {
			for _, seq := range p.pending() {
				if seq < a.seq {
					b.dests[i] = b.dests[i].with(seq, 'e')
				}
			}
		}
	}
	return b, api.OK
}

// same holds a ledger against its book, in all that may be asked of it.
func same(t *testing.T, b book, l ledger.Ledger) {
	t.Helper()
	if got, want := said(l), said(b.ledger()); got != want || !ledger.Right(l) {
		t.Fatalf("%s (right: %v), not %s", got, ledger.Right(l), want)
	}
	if got := ledger.Free(l); got != b.free() {
		t.Fatalf("%s: Free %d, not %d", said(l), got, b.free())
	}
	for _, name := range []string{"", "a", "b", "c", "d", "e", "A"} {
		p, at := page{}, b.page(name)
		want := ledger.Dest{}
		if at >= 0 {
			p = b.dests[at]
			want = p.dest()
		}
		if d, ok := ledger.Find(l, name); saidDest(d) != saidDest(want) || ok != (at >= 0) {
			t.Fatalf("%s: %v, %v", said(l), d, ok)
		}
		if got := ledger.Pending(l, name); !slices.Equal(got, p.pending()) {
			t.Fatalf("%s: %q: %d, not %d", said(l), name, got, p.pending())
		}
		for seq := range b.next + 2 {
			if got := ledger.Waits(l, name, seq); got != (p.state(seq) == pending) {
				t.Fatalf("%s: %q, %d: %v", said(l), name, seq, got)
			}
		}
	}
}

// inOneState is J5, of the ledger alone: what is pending, and the counts, are all entries; and no count went down.
func inOneState(t *testing.T, was, l ledger.Ledger) {
	t.Helper()
	for _, d := range l.Dests {
		if many := uint64(len(ledger.Pending(l, d.Name))); many+d.Acked+d.Evicted+d.Rejected != l.Next-d.Since {
			t.Fatalf("%s: %d pending of %s", said(l), many, d.Name)
		}
		old, ok := ledger.Find(was, d.Name)
		if ok && (old.Acked > d.Acked || old.Evicted > d.Evicted || old.Rejected > d.Rejected) {
			t.Fatalf("%s behind %s", said(l), said(was))
		}
	}
}

// next does an act to both, and answers what there is then; an error leaves all as it was.
func next(t *testing.T, b book, l ledger.Ledger, a act) (book, ledger.Ledger) {
	t.Helper()
	was := said(l)
	c, want := b.by(a)
	m, e := a.of(l)
	if e != want {
		t.Fatalf("%s of %s: %v, not %v", a, was, e, want)
	}
	if said(l) != was {
		t.Fatalf("%s made %s of %s", a, said(l), was)
	}
	if e != api.OK {
		if said(m) != said(ledger.Ledger{}) {
			t.Fatalf("%s beside %v", said(m), e)
		}
		return b, l
	}
	inOneState(t, l, m)
	same(t, c, m)
	return c, m
}

// acts are all that may be done with few names and small numbers, right or wrong.
func acts(names []string, most uint64) []act {
	out := []act{{op: "Add"}}
	for _, name := range names {
		out = append(out, act{op: "Join", name: name}, act{op: "Leave", name: name})
		for seq := range most + 1 {
			for _, kind := range []byte{'a', 'r', 'e'} {
				out = append(out, act{op: "Done", name: name, seq: seq, kind: kind})
			}
		}
	}
	for seq := range most + 1 {
		out = append(out, act{op: "Evict", seq: seq})
	}
	return out
}

// TestJ5FromEachSmallLedger goes to all ledgers of few entries and names, by all acts.
func TestJ5FromEachSmallLedger(t *testing.T) {
	for _, c := range []struct {
		names []string
		most  uint64 // Next
		least int    // ledgers that are reached
	}{
		{[]string{"a", "A"}, 6, 1000},
		{[]string{"a", "b"}, 4, 2000},
		{[]string{"a", "b", "c"}, 2, 100},
		{[]string{"a", "b", "c", "d", "e"}, 1, 100},
	} {
		all := acts(c.names, c.most+1)
		seen := map[string]bool{said(ledger.New()): true}
		type both struct {
			b book
			l ledger.Ledger
		}
		work := []both{{newBook(), ledger.New()}}
		for ; len(work) > 0; work = work[1:] {
			for _, a := range all {
				b, l := next(t, work[0].b, work[0].l, a)
				if l.Next <= c.most && !seen[said(l)] {
					seen[said(l)] = true
					work = append(work, both{b, l})
				}
			}
		}
		if len(seen) < c.least {
			t.Error(c.names, len(seen))
		}
	}
}

// walk does many acts, one behind the other.
func walk(t *testing.T, pick func(n int) int, many int) {
	t.Helper()
	b, l := newBook(), ledger.New()
	var done []act
	t.Cleanup(func() {
		if t.Failed() {
			t.Log(done)
		}
	})
	for range many {
		a := act{name: []string{"a", "b", "c", "d", "a", "b", "e", "A"}[pick(8)], seq: uint64(pick(int(b.next) + 2)), kind: "aarre"[pick(5)]}
		switch pick(16) {
		case 0, 1, 2, 3:
			a.op = "Add"
		case 4, 5:
			a.op = "Join"
		case 6:
			a.op = "Leave"
		case 7:
			a.op = "Evict"
			a.seq = b.first + uint64(pick(4))
		default:
			a.op = "Done"
		}
		done = append(done, a)
		b, l = next(t, b, l, a)
	}
}

func TestJ5ByTheBook(t *testing.T) {
	for seed := range 200 {
		r := rand.New(rand.NewSource(int64(seed)))
		walk(t, r.Intn, 150)
	}
}

func FuzzLedger(f *testing.F) {
	f.Add([]byte("\x00\x00\x00\x04\x00\x00\x00\x00\x00\x00\x00\x00\x00\x01\x00\x08\x00\x00\x00\x07\x01"))
	f.Fuzz(func(t *testing.T, by []byte) {
		at := 0
		pick := func(n int) int {
			if at == len(by) {
				return 0
			}
			at++
			return int(by[at-1]) % n
		}
		walk(t, pick, min(len(by), 200))
	})
}
