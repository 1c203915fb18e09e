package mark_test

import (
	"fmt"
	"math/rand"
	"slices"
	"testing"

	"postroom/api"
	"postroom/ledger"
	"postroom/mark"
)

// An act is one call that makes another ledger, with all that it may be handed.
type act struct {
	op   string
	name string
	seq  uint64
	kind byte
}

func (a act) String() string { return fmt.Sprintf("%s(%q %d %q)", a.op, a.name, a.seq, a.kind) }

func (a act) of(l ledger.Ledger) (ledger.Ledger, api.Errno) {
	switch a.op {
	case "Join":
		return ledger.Join(l, a.name)
	case "Leave":
		return ledger.Leave(l, a.name)
	case "Done":
		return ledger.Done(l, a.name, a.seq, a.kind)
	case "Evict":
		return ledger.Evict(l, a.seq)
	}
	return ledger.Add(l), api.OK
}

// acts are all that may be done with these names and numbers, right or wrong.
func acts(names []string, seqs []uint64) []act {
	out := []act{{op: "Add"}}
	for _, name := range names {
		out = append(out, act{op: "Join", name: name}, act{op: "Leave", name: name})
		for _, seq := range seqs {
			for _, kind := range []byte{'a', 'r', 'e'} {
				out = append(out, act{op: "Done", name: name, seq: seq, kind: kind})
			}
		}
	}
	for _, seq := range seqs {
		out = append(out, act{op: "Evict", seq: seq})
	}
	return out
}

func below(n uint64) []uint64 {
	var out []uint64
	for i := range n {
		out = append(out, i)
	}
	return out
}

// marked is what is taken of what is put.
func marked(t *testing.T, l ledger.Ledger) ledger.Ledger {
	t.Helper()
	s, e := mark.Put(l)
	if e != api.OK {
		t.Fatalf("%s: %v", said(l), e)
	}
	m, e := mark.Take(s)
	if e != api.OK {
		t.Fatalf("%q: %v", s, e)
	}
	return m
}

// same wants that two ledgers tell the same of all that may be asked of them.
func same(t *testing.T, l, m ledger.Ledger, names []string, seqs []uint64) {
	t.Helper()
	if said(l) != said(m) || !ledger.Right(m) || ledger.Free(l) != ledger.Free(m) {
		t.Fatalf("%s, not %s", said(m), said(l))
	}
	for _, name := range names {
		d, ok := ledger.Find(l, name)
		if x, there := ledger.Find(m, name); said(of(0, 0, x)) != said(of(0, 0, d)) || there != ok {
			t.Fatalf("%s: %q: %v, not %v", said(m), name, x, d)
		}
		if l.Next < 1000 && !slices.Equal(ledger.Pending(m, name), ledger.Pending(l, name)) {
			t.Fatalf("%s: %q: %d", said(m), name, ledger.Pending(m, name))
		}
		for _, seq := range seqs {
			if ledger.Waits(m, name, seq) != ledger.Waits(l, name, seq) {
				t.Fatalf("%s: %q: %d", said(m), name, seq)
			}
		}
	}
}

// does does an act to both, wants the same of it, and answers both.
func does(t *testing.T, a act, l, m ledger.Ledger) (ledger.Ledger, ledger.Ledger, api.Errno) {
	t.Helper()
	x, e := a.of(l)
	y, wrong := a.of(m)
	if wrong != e || said(y) != said(x) {
		t.Fatalf("%s: %s, %v, not %s, %v", a, said(y), wrong, said(x), e)
	}
	return x, y, e
}

// TestK2FromEachSmallLedger goes to all ledgers of few entries and names; each goes on from its bytes as it would itself.
func TestK2FromEachSmallLedger(t *testing.T) {
	for _, c := range []struct {
		names []string
		most  uint64 // Next
		least int    // ledgers that are reached
	}{
		{[]string{"a"}, 6, 1000},
		{[]string{"a", "b"}, 3, 200},
		{[]string{"a", "b", "c", "d", "e"}, 1, 100},
	} {
		seqs := below(c.most + 2)
		all := acts(c.names, seqs)
		put := seen{}
		work := []ledger.Ledger{ledger.New()}
		put.put(t, work[0])
		for ; len(work) > 0; work = work[1:] {
			l, m := work[0], marked(t, work[0])
			same(t, l, m, c.names, seqs)
			for _, a := range all {
				x, y, e := does(t, a, l, m)
				if e != api.OK || x.Next > c.most {
					continue
				}
				if _, ok := put[byWords(x)]; !ok {
					put.put(t, x)
					work = append(work, y) // what was made of what was taken goes on
				}
			}
		}
		if len(put) < c.least {
			t.Error(c.names, len(put))
		}
	}
}

// TestK2GoesOn: through many acts, with and without bytes between them.
func TestK2GoesOn(t *testing.T) {
	names := []string{"a", "b", "c", "d", "e"}
	for seed := range 100 {
		r := rand.New(rand.NewSource(int64(seed)))
		l := ledger.New()
		once, always := marked(t, l), marked(t, l)
		all := seen{}
		for step := range 200 {
			a := act{op: []string{"Add", "Add", "Add", "Add", "Join", "Join", "Leave", "Evict", "Done", "Done", "Done", "Done", "Done", "Done"}[r.Intn(14)],
				name: names[r.Intn(5)], seq: uint64(r.Intn(int(l.Next) + 2)), kind: "aarre"[r.Intn(5)]}
			if a.op == "Evict" {
				a.seq = l.First + uint64(r.Intn(4))
			}
			x, y, e := does(t, a, l, once)
			_, z, _ := does(t, a, l, always)
			if e != api.OK {
				continue
			}
			l, once, always = x, y, marked(t, z)
			all.put(t, l)
			same(t, l, always, names, below(l.Next+2))
			if step == 60 {
				once = marked(t, once)
			}
		}
	}
}

// TestK2GoesOnFar: acts at the edges of numbers that nobody can go through.
func TestK2GoesOnFar(t *testing.T) {
	names := []string{"a", "b", "c", "zone", "d", "_", ""}
	seqs := []uint64{0, 1, 2, 5, 7, 8, 9, 10, 299, 300, 1 << 32, 1 << 63, 1<<63 + 1, most - 2, most - 1, most}
	for _, k := range known() {
		m := marked(t, k.l)
		same(t, k.l, m, names, seqs)
		for _, a := range acts(names, seqs) {
			does(t, a, k.l, m)
		}
	}
}
