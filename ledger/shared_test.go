package ledger_test

import (
	"slices"
	"testing"

	"postroom/api"
	"postroom/ledger"
)

const stain = 777777

// roomy is a right ledger, with room behind each list's length, in which something else stands.
func roomy(t *testing.T) ledger.Ledger {
	l := joined(t, "a", "b", "c")
	l = add(l, 6)
	for _, seq := range []uint64{1, 3, 5, 6, 8} {
		for _, name := range []string{"a", "b", "c"} {
			if ledger.Waits(l, name, seq) {
				l = must(t)(ledger.Done(l, name, seq, ledger.Acked))
			}
		}
	}
	for i, d := range l.Dests {
		l.Dests[i].Above = append(slices.Clone(d.Above), stain, stain)[:len(d.Above)]
	}
	stranger := ledger.Dest{Name: "stranger", Above: []uint64{stain}}
	l.Dests = append(l.Dests, stranger, stranger)[:len(l.Dests)]
	is(t, l, "1 10; a 1 2 [3 5 6 8] 5 0 0; b 2 2 [3 5 6 8] 4 0 0; c 3 4 [5 6 8] 4 0 0")
	return l
}

// whole is all that a ledger's memory has, that behind the lengths too.
func whole(l ledger.Ledger) string {
	l.Dests = slices.Clone(l.Dests[:cap(l.Dests)])
	for i, d := range l.Dests {
		l.Dests[i].Above = d.Above[:cap(d.Above)]
	}
	return said(l)
}

// spoil writes into all memory of a ledger that is handed out or in.
func spoil(l ledger.Ledger) {
	for _, d := range l.Dests[:cap(l.Dests)] {
		spoilNumbers(d.Above)
	}
	for i := range l.Dests[:cap(l.Dests)] {
		l.Dests[:cap(l.Dests)][i] = ledger.Dest{Name: "spoilt", Acked: stain}
	}
}

func spoilNumbers(l []uint64) {
	for i := range l[:cap(l)] {
		l[:cap(l)][i] = stain
	}
}

// everyAct are calls of all kinds of roomy, with what they may tell.
func everyAct() []act {
	out := acts([]string{"a", "b", "c", "d", "A", ""}, 11)
	return append(out, act{op: "Evict", seq: 1 << 63}, act{op: "Done", name: "a", seq: 1 << 63, kind: 'a'})
}

func TestP3WhatIsHandedInStays(t *testing.T) {
	l := roomy(t)
	was := whole(l)
	for _, a := range everyAct() {
		a.of(l)
		if whole(l) != was {
			t.Fatalf("%s: %s, not %s", a, whole(l), was)
		}
	}
	for _, name := range []string{"a", "b", "c", "d", ""} {
		ledger.Find(l, name)
		ledger.Pending(l, name)
		ledger.Waits(l, name, 4)
	}
	ledger.Right(l)
	ledger.Free(l)
	if whole(l) != was {
		t.Fatalf("%s, not %s", whole(l), was)
	}
}

// TestP3WhatIsToldIsNew: neither sees what is written into the other.
func TestP3WhatIsToldIsNew(t *testing.T) {
	for _, a := range everyAct() {
		l := roomy(t)
		was := whole(l)
		m, e := a.of(l)
		if e != api.OK {
			continue
		}
		told := said(m)
		spoil(l)
		if said(m) != told {
			t.Fatalf("%s: %s, not %s", a, said(m), told)
		}
		l = roomy(t)
		m, _ = a.of(l)
		spoil(m)
		if whole(l) != was {
			t.Fatalf("%s: %s, not %s", a, whole(l), was)
		}
	}
}

// TestP3ListsOfOneAnswer: no list of an answer is another one's, nor grows into it.
func TestP3ListsOfOneAnswer(t *testing.T) {
	for _, a := range everyAct() {
		m, e := a.of(roomy(t))
		if e != api.OK {
			continue
		}
		for at := range m.Dests {
			m, _ := a.of(roomy(t))
			others := slices.Concat(m.Dests[:at], m.Dests[at+1:])
			was := said(ledger.Ledger{Dests: others})
			spoilNumbers(m.Dests[at].Above)
			if got := said(ledger.Ledger{Dests: others}); got != was {
				t.Fatalf("%s: %s, not %s", a, got, was)
			}
		}
	}
}

func TestP3FindAndPendingAreNew(t *testing.T) {
	for _, name := range []string{"a", "b", "c"} {
		l := roomy(t)
		was := whole(l)
		d, _ := ledger.Find(l, name)
		spoilNumbers(d.Above)
		spoilNumbers(ledger.Pending(l, name))
		if whole(l) != was {
			t.Fatalf("%s, not %s", whole(l), was)
		}
		d, _ = ledger.Find(l, name)
		told, wait := saidDest(d), ledger.Pending(l, name)
		waited := slices.Clone(wait)
		spoil(l)
		if saidDest(d) != told || !slices.Equal(wait, waited) {
			t.Fatal(saidDest(d), wait)
		}
	}
}

// TestP3TwoFromOne: ledgers that were made of the same one do not see each other.
func TestP3TwoFromOne(t *testing.T) {
	l := joined(t, "a")
	b := must(t)(ledger.Join(l, "b"))
	c := must(t)(ledger.Join(l, "c"))
	is(t, b, "1 2; a 1 1 [] 0 0 0; b 2 2 [] 0 0 0")
	is(t, c, "1 2; a 1 1 [] 0 0 0; c 2 2 [] 0 0 0")
	l = acked(t, 9, 9)
	five := must(t)(ledger.Done(l, "a", 5, ledger.Acked))
	seven := must(t)(ledger.Done(l, "a", 7, ledger.Rejected))
	none := must(t)(ledger.Leave(l, "a"))
	is(t, five, "1 10; a 1 1 [5 9] 2 0 0")
	is(t, seven, "1 10; a 1 1 [7 9] 1 0 1")
	is(t, none, "1 10")
	is(t, l, "1 10; a 1 1 [9] 1 0 0")
}
