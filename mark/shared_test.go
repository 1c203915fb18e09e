package mark_test

import (
	"slices"
	"testing"

	"postroom/api"
	"postroom/ledger"
	"postroom/mark"
)

const stain = 777777

// roomy is a ledger with room behind each list's length, in which something else stands.
func roomy(l ledger.Ledger) ledger.Ledger {
	stranger := ledger.Dest{Name: "stranger", Above: []uint64{stain}}
	dests := append(slices.Clone(l.Dests), stranger, stranger)
	for i, d := range dests {
		dests[i].Above = append(slices.Clone(d.Above), stain, stain)[:len(d.Above)]
	}
	l.Dests = dests[:len(l.Dests)]
	return l
}

// whole is all that a ledger's memory has, that behind the lengths too.
func whole(l ledger.Ledger) string {
	l.Dests = slices.Clone(l.Dests[:cap(l.Dests)])
	for i, d := range l.Dests {
		l.Dests[i].Above = d.Above[:cap(d.Above)]
	}
	return said(l)
}

// spoil writes into all memory of a ledger.
func spoil(l ledger.Ledger) {
	for _, d := range l.Dests[:cap(l.Dests)] {
		spoilNumbers(d.Above)
	}
	for i := range l.Dests[:cap(l.Dests)] {
		l.Dests[:cap(l.Dests)][i] = ledger.Dest{Name: "spoilt", Acked: stain}
	}
}

func spoilNumbers(l []uint64) {
	for i := range l[:cap(l)] {
		l[:cap(l)][i] = stain
	}
}

// TestP3WhatIsHandedInStays: neither the lists nor what is behind them is changed, nor told.
func TestP3WhatIsHandedInStays(t *testing.T) {
	for _, k := range known() {
		l := roomy(k.l)
		was := whole(l)
		if s, e := mark.Put(l); s != k.s || e != api.OK || whole(l) != was {
			t.Errorf("%q, %v: %s, not %s", s, e, whole(l), was)
		}
	}
	for what, l := range wrong() {
		l = roomy(l)
		was := whole(l)
		if s, e := mark.Put(l); s != "" || e != api.ErrArg || whole(l) != was {
			t.Errorf("%s: %q, %v: %s, not %s", what, s, e, whole(l), was)
		}
	}
}

// TestP3BytesAreKept: what was put stays, whatever becomes of the ledger.
func TestP3BytesAreKept(t *testing.T) {
	for _, k := range known() {
		l := roomy(k.l)
		s, _ := mark.Put(l)
		spoil(l)
		if s != k.s {
			t.Errorf("%q, not %q", s, k.s)
		}
		if again, e := mark.Put(roomy(k.l)); again != k.s || e != api.OK {
			t.Errorf("%q, %v", again, e)
		}
	}
}

// TestP3WhatIsTakenIsNew: two that were taken from the same bytes do not see each other.
func TestP3WhatIsTakenIsNew(t *testing.T) {
	for _, k := range known() {
		l, _ := mark.Take(k.s)
		m, _ := mark.Take(k.s)
		spoil(l)
		if said(m) != said(k.l) {
			t.Errorf("%s, not %s", said(m), said(k.l))
		}
		taken(t, k.s, k.l)
	}
}

// TestP3ListsOfOneAnswer: no list of an answer is another one's, nor grows into it.
func TestP3ListsOfOneAnswer(t *testing.T) {
	for _, k := range known() {
		for at := range k.l.Dests {
			m, _ := mark.Take(k.s)
			spoilNumbers(m.Dests[at].Above)
			m.Dests[at].Above = k.l.Dests[at].Above
			if said(m) != said(k.l) {
				t.Errorf("%s, not %s", said(m), said(k.l))
			}
		}
	}
}

// TestP4SameAgain: what was put or taken ahead of it does not matter.
func TestP4SameAgain(t *testing.T) {
	for range 3 {
		for _, k := range known() {
			put(t, k.l, k.s)
			refused(t, k.s+"\x00")
		}
	}
}
