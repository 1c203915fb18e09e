package spool_test

import (
	"fmt"
	"math"
	"strings"
	"testing"

	"postroom/api"
	"postroom/disk"
	"postroom/mark"
	"postroom/spool"
)

// marked wants that the ledger is what the mark is.
func marked(t *testing.T, d *disk.Disk, s *spool.Spool) {
	t.Helper()
	want, e := mark.Put(s.Ledger())
	right(t, e)
	if got, e := d.Read("ck"); got != want || e != api.OK {
		t.Fatalf("marked is %q, %v, not %q", got, e, want)
	}
}

func TestL3AckAndReject(t *testing.T) {
	d, s := opened(t, pairs, "Ja =a =b =c Jb =d +e")
	ops := d.Ops()
	const most = "18446744073709551615"
	refuses(t, s, api.ErrNone, "Ac1 Rc1 Ac4 Rc4 A?1 RA1")
	refuses(t, s, api.ErrNone, "Ac5 Rc5 Ac6 Rc6 Ac0 Rc"+most) // ahead of what is told of the number
	refuses(t, s, api.ErrState, "Aa5 Ra5 Ab5 Rb5")            // which is there, but not durable yet
	refuses(t, s, api.ErrState, "Aa6 Ra6 Ab6 Rb6 Aa7 Ra7 Aa"+most+" Ra"+most)
	refuses(t, s, api.ErrState, "Aa0 Ra0 Ab0 Rb0 Ab1 Rb1 Ab3 Rb3") // ahead of all, and of when b joined
	if s.Ack("", 1) != api.ErrNone || s.Reject("", 1) != api.ErrNone || d.Ops() != ops {
		t.Error(d.Ops() - ops)
	}
	costs(t, d, s, "Aa2", 0)
	tells(t, s, "{1 6 [{a 1 1 [2] 1 0 0} {b 4 4 [] 0 0 0}]} 5 35: a b c d e")
	costs(t, d, s, "Rb4", 6)
	tells(t, s, "{1 6 [{a 1 1 [2] 1 0 0} {b 4 5 [] 0 0 1}]} 5 35: a b c d e")
	marked(t, d, s)
	costs(t, d, s, "Ra4", 6)
	costs(t, d, s, "Aa1", 0)
	tells(t, s, "{1 6 [{a 1 3 [4] 2 0 1} {b 4 5 [] 0 0 1}]} 5 35: a b c d e")
	refuses(t, s, api.ErrState, "Aa1 Ra1 Aa2 Ra2 Aa4 Ra4 Ab4 Rb4") // done
	does(t, s, "S Aa5 Rb5 Aa3")
	tells(t, s, "{1 6 [{a 1 6 [] 4 0 1} {b 4 6 [] 0 0 2}]} 6 35: a b c d e")
	refuses(t, s, api.ErrState, "Aa5 Rb5 Aa6 Rb6")
}

func TestL3WhatIsBelowFirst(t *testing.T) {
	_, s := opened(t, each, "Ja =x*1990 =a =b =c =d")
	tells(t, s, "{2 6 [{a 1 2 [] 0 1 0}]} 6 28: a b c d")
	refuses(t, s, api.ErrState, "Aa1 Ra1")
	does(t, s, "Aa2 Aa4 C")
	tells(t, s, "{3 6 [{a 1 3 [4] 2 1 0}]} 6 21: b c d")
	refuses(t, s, api.ErrState, "Aa1 Ra1 Aa2 Ra2 Aa4 Ra4")
	refuses(t, s, api.ErrNone, "Ab1 Rb2")
}

func TestL3AckIsNotMarked(t *testing.T) {
	d, s := opened(t, pairs, "Ja =a =b")
	was, _ := d.Read("ck")
	d.Fail(1)
	costs(t, d, s, "Aa1", 0)
	d.Stop(0) // it needs no power
	costs(t, d, s, "Aa2", 0)
	d.Stop(-1)
	d.Fail(0)
	tells(t, s, "{1 3 [{a 1 3 [] 2 0 0}]} 3 14: a b")
	if got, _ := d.Read("ck"); got != was {
		t.Errorf("marked is %q, not %q", got, was)
	}
	tells(t, open(t, d, pairs), "{1 3 [{a 1 1 [] 0 0 0}]} 3 14: a b")
	for _, word := range []string{"M", "Lb", "Jc", "Rb2"} { // with all that is marked it is, too
		d, _ := opened(t, pairs, "Ja Jb =a =b Aa1 "+word+" Aa2")
		if got := open(t, d, pairs).Ledger().Dests[0]; fmt.Sprint(got) != "{a 1 2 [] 1 0 0}" {
			t.Error(word, got)
		}
	}
}

// TestL3MarkedAheadOfHolding: what is not marked does not hold.
func TestL3MarkedAheadOfHolding(t *testing.T) {
	for word, want := range map[string]string{
		"Ra1": "{1 4 [{a 1 2 [3] 1 0 1} {b 1 3 [] 2 0 0}]} 4 21: a b c",
		"Rb3": "{1 4 [{a 1 1 [3] 1 0 0} {b 1 4 [] 2 0 1}]} 4 21: a b c",
		"Jc":  "{1 4 [{a 1 1 [3] 1 0 0} {b 1 3 [] 2 0 0} {c 4 4 [] 0 0 0}]} 4 21: a b c",
		"La":  "{1 4 [{b 1 3 [] 2 0 0}]} 4 21: a b c",
		"Lb":  "{1 4 [{a 1 1 [3] 1 0 0}]} 4 21: a b c",
		"M":   "{1 4 [{a 1 1 [3] 1 0 0} {b 1 3 [] 2 0 0}]} 4 21: a b c",
	} {
		const start = "Ja Jb =a =b =c Aa3 Ab1 Ab2"
		d, s := opened(t, pairs, start)
		text, _ := d.Read("ck")
		for n := range 2 {
			d.Fail(n + 1)
			refuses(t, s, api.ErrIO, word)
		}
		put(t, d, "full", strings.Repeat("x", roomy-d.Used()-5))
		refuses(t, s, api.ErrFull, word)
		right(t, d.Remove("full"))
		if got, _ := d.Read("ck"); got != text {
			t.Errorf("%s: marked is %q, not %q", word, got, text)
		}
		costs(t, d, s, word, 6)
		tells(t, s, want)
		marked(t, d, s)
		tells(t, open(t, d.Crash(disk.Keep{}), pairs), want)
		for n := range 8 {
			d, s := opened(t, pairs, start)
			d.Stop(n)
			if _, e := act(s, word); (e == api.OK) != (n >= 6) || e != api.OK && e != api.ErrDead {
				t.Error(word, n, e)
			}
			x := open(t, d.Crash(disk.Keep{}), pairs) // nothing but what is synced
			if got := said(x); (got == want) != (n >= 6) {
				t.Error(word, n, got)
			}
		}
	}
}

func TestL3Join(t *testing.T) {
	d, s := opened(t, pairs, "")
	costs(t, d, s, "Ja", 6)
	does(t, s, "+a +b")
	was, ops := said(s), d.Ops()
	refuses(t, s, api.ErrThere, "Ja")
	refuses(t, s, api.ErrName, "J J1 J? J"+strings.Repeat("b", 21))
	if said(s) != was || d.Ops() != ops { // not even a Sync
		t.Error(said(s), d.Ops()-ops)
	}
	d.Fail(1)
	refuses(t, s, api.ErrIO, "Jb") // of the log's Sync
	for n := range 2 {
		d, s := opened(t, pairs, "Ja +a +b")
		d.Fail(n + 2)
		if e := s.Join("b"); e != api.ErrIO { // of the mark: what is synced stays so
			t.Error(e)
		}
		tells(t, s, "{1 3 [{a 1 1 [] 0 0 0}]} 3 14: a b")
	}
	costs(t, d, s, "Jb", 7)
	tells(t, s, "{1 3 [{a 1 1 [] 0 0 0} {b 3 3 [] 0 0 0}]} 3 14: a b")
	marked(t, d, s)
	costs(t, d, s, "Jc", 6)
	does(t, s, "+c Jd")
	refuses(t, s, api.ErrMany, "Je")
	refuses(t, s, api.ErrThere, "Jd")
	refuses(t, s, api.ErrName, "JE")
	tells(t, s, "{1 4 [{a 1 1 [] 0 0 0} {b 3 3 [] 0 0 0} {c 3 3 [] 0 0 0} {d 4 4 [] 0 0 0}]} 4 21: a b c")
	tells(t, open(t, d.Crash(disk.Keep{}), pairs), said(s))
	_, s = opened(t, pairs, "J"+strings.Repeat("b", 20))
	if l := s.Ledger(); len(l.Dests) != 1 || l.Dests[0].Name != strings.Repeat("b", 20) {
		t.Error(l)
	}
}

// TestL3JoinSyncsAheadOfTheMark: else the power could take what stood below the number that it joined at.
func TestL3JoinSyncsAheadOfTheMark(t *testing.T) {
	for n := range 9 {
		d, s := opened(t, pairs, "+a +b")
		d.Stop(n)
		s.Join("a")
		for _, k := range fronts(d) {
			if l := open(t, d.Crash(k), pairs).Ledger(); len(l.Dests) == 1 && (l.Dests[0].Since != 3 || l.Next != 3) {
				t.Fatal(n, k, l)
			}
		}
	}
}

func TestL3Leave(t *testing.T) {
	d, s := opened(t, pairs, "Ja Jb Jc =a =b Ac1 Rb2")
	ops := d.Ops()
	refuses(t, s, api.ErrNone, "Ld L? L")
	if d.Ops() != ops {
		t.Error(d.Ops() - ops)
	}
	costs(t, d, s, "La", 6)
	tells(t, s, "{1 3 [{b 1 1 [2] 0 0 1} {c 1 2 [] 1 0 0}]} 3 14: a b")
	marked(t, d, s)
	refuses(t, s, api.ErrNone, "La Aa1 Ra1")
	does(t, s, "+c Ja") // it begins anew, as the last one
	tells(t, s, "{1 4 [{b 1 1 [2] 0 0 1} {c 1 2 [] 1 0 0} {a 4 4 [] 0 0 0}]} 4 21: a b c")
	does(t, s, "Lc Lb +d La")
	tells(t, s, "{1 5 []} 4 28: a b c d") // which syncs nothing
	tells(t, open(t, d.Crash(disk.Keep{}), pairs), "{1 4 []} 4 21: a b c")
}

func TestL3Save(t *testing.T) {
	d, s := opened(t, pairs, "")
	if _, e := d.Read("ck"); e != api.ErrNone {
		t.Error(e)
	}
	costs(t, d, s, "M", 6)
	marked(t, d, s)
	does(t, s, "Ja =a =b =c Aa2 Aa3")
	d.Fail(1)
	refuses(t, s, api.ErrIO, "M")
	does(t, s, "M +d Aa1 M") // also what is not durable yet
	marked(t, d, s)
	tells(t, s, "{1 5 [{a 1 4 [] 3 0 0}]} 4 28: a b c d")
	tells(t, open(t, d.Crash(disk.Keep{}), pairs), "{1 4 [{a 1 4 [] 3 0 0}]} 4 21: a b c")
	tells(t, open(t, d.Crash(everything(all)), pairs), "{1 5 [{a 1 4 [] 3 0 0}]} 5 28: a b c d")
	d.Stop(3)
	if e := s.Save(); e != api.ErrDead {
		t.Error(e)
	}
}

// TestL3NumbersUpToTheGreatest: also there nothing but what is durable, and pending, is done.
func TestL3NumbersUpToTheGreatest(t *testing.T) {
	const first = math.MaxUint64 - 2
	d := lay(t, ledgerOf(first, first, owes("a", first, first)), []part{{first, "a"}})
	s := open(t, d, each)
	if s.Ack("a", first+1) != api.ErrState || s.Ack("a", math.MaxUint64) != api.ErrState || s.Ack("a", 0) != api.ErrState {
		t.Error(s.Ledger())
	}
	numbered(t, s, "=b", first+1)
	right(t, s.Reject("a", first+1), s.Ack("a", first), s.Reclaim())
	tells(t, s, "{18446744073709551614 18446744073709551615 [{a 18446744073709551613 18446744073709551615 [] 1 0 1}]} 18446744073709551615 16: b")
	tells(t, open(t, d.Crash(disk.Keep{}), each), said(s))
}

// TestNumbersGoRound: behind the greatest number the ledger is not right any more, and is not marked.
func TestNumbersGoRound(t *testing.T) {
	const first = math.MaxUint64
	d := lay(t, ledgerOf(first, first, owes("a", first, first)), []part{{first, ""}})
	s := open(t, d, each)
	numbered(t, s, "=a", first)
	if l := s.Ledger(); l.Next != 0 {
		t.Error(l)
	}
	was, ops := files(d), d.Ops()
	refuses(t, s, api.ErrArg, "M Jb La")
	if files(d) != was || d.Ops() != ops {
		t.Errorf("there is %q, behind %d operations", files(d), d.Ops()-ops)
	}
	s.Ack("a", first)
	s.Reclaim()
	s.Add("b", true)
	s.Add(strings.Repeat("x", 2000), true)
	s.Get(first)
}
