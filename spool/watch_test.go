package spool_test

import (
	"fmt"
	"maps"
	"slices"
	"strings"
	"testing"

	"postroom/api"
	"postroom/disk"
	"postroom/ledger"
	"postroom/spool"
)

// A watch is a spool, a twin of its disk that is worked by hand, and what must be there when the power goes.
type watch struct {
	t       *testing.T
	what    string // was done
	c       spool.Config
	d, twin *disk.Disk
	s       *spool.Spool // none, if it is not open
	b       *book
	durable uint64              // as it was told
	must    map[uint64]string   // the bodies that were told
	may     map[uint64][]string // all that were handed in, by the number that each would have
	marks   []account           // what the mark may be
	above   bool                // it was opened with more bytes than there may be
}

func newWatch(t *testing.T, c spool.Config, room int) *watch {
	w := &watch{t: t, c: c, d: disk.New(room), twin: disk.New(room), may: map[uint64][]string{}}
	w.durable, w.marks = 1, []account{{first: 1, next: 1}}
	return w
}

// on is another watch, of what the power left, where the same must be there.
func (w *watch) on(k disk.Keep) *watch {
	c := *w
	c.what += fmt.Sprint(" Crash", k)
	c.d, c.twin, c.s, c.b = w.d.Crash(k), w.twin.Crash(k), nil, nil
	c.may = maps.Clone(w.may)
	return &c
}

func (w *watch) fail(what ...any) {
	w.t.Helper()
	w.t.Fatalf("%v %s: %s", w.c, w.what, fmt.Sprint(what...))
}

func (w *watch) power(n int) {
	w.what += fmt.Sprintf(" Stop(%d)", n)
	w.d.Stop(n)
	w.twin.Stop(n)
}

func (w *watch) fails(n int) {
	w.what += fmt.Sprintf(" Fail(%d)", n)
	w.d.Fail(n)
	w.twin.Fail(n)
}

// open opens both, and wants of what is there all that L6 promises.
func (w *watch) open() api.Errno {
	w.t.Helper()
	w.what += " Open"
	s, e := spool.Open(w.d, w.c)
	b, want := openByHand(w.twin, w.c)
	if e != want || (s == nil) != (e != api.OK) || e == api.ErrForm { // what the power left is always a spool
		w.fail(s, e, ", not ", want)
	}
	w.s, w.b = s, b
	if s != nil {
		w.same()
		w.promised()
		w.settle()
		w.above = w.s.Bytes() > w.c.Budget+spool.MaxFrame
	}
	return e
}

func (w *watch) same() {
	w.t.Helper()
	if what := differs(w.s, w.b); what != "" {
		w.fail(what)
	}
}

// settle begins anew from what is there.
func (w *watch) settle() {
	w.durable, w.must, w.marks = w.s.Durable(), maps.Clone(w.b.bodies), w.b.marks
}

// promised is L6, of a spool that was opened.
func (w *watch) promised() {
	w.t.Helper()
	if !hasPower(w.d) { // to look at it, there is power for a while
		w.d.Stop(-1)
		defer w.d.Stop(0)
	}
	l := w.s.Ledger()
	if !ledger.Right(l) || l.Next < w.durable || w.s.Durable() != l.Next {
		w.fail("Durable was ", w.durable, ", but ", said(w.s))
	}
	if !slices.ContainsFunc(w.marks, func(a account) bool { return isLedger(a, l) }) {
		w.fail("marked was ", w.marks, ", but ", said(w.s))
	}
	for seq := l.First; seq < l.Next; seq++ {
		got, e := w.s.Get(seq)
		if e != api.OK || seq < w.durable && got != w.must[seq] || seq >= w.durable && !slices.Contains(w.may[seq], got) {
			w.fail(seq, " was ", w.must[seq], ", or ", w.may[seq], ", but ", said(w.s))
		}
	}
}

// isLedger tells whether a ledger is an account, but for the entries that came in since.
func isLedger(a account, l ledger.Ledger) bool {
	a, ok := a.upTo(l.Next)
	return ok && fmt.Sprint(a.ledger()) == fmt.Sprint(l)
}

// call does a word, of both; where an operation told ErrDead, nothing is promised of the spool.
func (w *watch) call(word string) api.Errno {
	w.t.Helper()
	w.what += " " + word
	adds := strings.Contains("+=", word[:1])
	if adds {
		next := w.b.now.next
		w.may[next] = append(slices.Clip(w.may[next]), bodyOf(word[1:]))
	}
	seq, e := act(w.s, word)
	n, want := act(w.b, word)
	if e != want || seq != n {
		w.fail(seq, e, ", not ", n, want)
	}
	w.marks = w.b.marks
	if adds && e == api.OK {
		w.must = maps.Clone(w.b.bodies)
	}
	if adds && e == api.OK && word[0] == '=' {
		w.durable = seq + 1
	}
	if !w.b.dead {
		w.same()
		w.durable = w.s.Durable()
	}
	if n := w.s.Bytes(); n > w.c.Budget+spool.MaxFrame && !w.above && !w.b.dead {
		w.fail(n, " bytes")
	}
	return e
}

// steps does words, F2 among them, which is Fail(2). Did an operation tell ErrDead?
func (w *watch) steps(words string) bool {
	w.t.Helper()
	for w.s == nil {
		if w.open() == api.ErrDead {
			return true
		}
	}
	for _, word := range strings.Fields(words) {
		if word[0] == 'F' {
			w.fails(int(number(word[1:])))
		} else if w.call(word); w.b.dead {
			return true
		}
	}
	return false
}

// leaves hands on all that the power may leave, once of each kind.
func (w *watch) leaves(then func(*watch)) {
	w.t.Helper()
	l := fronts(w.d)
	sameDisk(w.t, w.what, w.d, w.twin)
	seen := map[string]bool{}
	for _, k := range l {
		key := files(w.d.Crash(k))
		if seen[key] {
			continue
		}
		seen[key] = true
		c := w.on(k)
		if other := files(c.twin); other != key {
			c.fail("there is ", key, ", not ", other)
		}
		then(c)
	}
}
