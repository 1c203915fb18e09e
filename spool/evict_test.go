package spool_test

import (
	"fmt"
	"strings"
	"testing"

	"postroom/api"
	"postroom/disk"
	"postroom/ledger"
	"postroom/segment"
	"postroom/spool"
)

func TestL4Reclaim(t *testing.T) {
	twos := spool.Config{Budget: 2016, Segment: 14}
	for _, c := range []struct {
		c     spool.Config
		words string
		gone  int // segments
		want  string
	}{
		{each, "", 0, "{1 1 []} 1 0:"},
		{wide, "=a =b =c", 0, "{1 4 []} 4 21: a b c"}, // there is no other one
		{each, "=a", 0, "{1 2 []} 2 7: a"},
		{each, "=a =b =c", 2, "{3 4 []} 4 7: c"}, // nobody waits
		{each, "Ja =a", 0, "{1 2 [{a 1 1 [] 0 0 0}]} 2 7: a"},
		{each, "Ja =a =b =c", 0, "{1 4 [{a 1 1 [] 0 0 0}]} 4 21: a b c"},
		{each, "Ja =a =b =c Aa1 Aa2 Aa3", 2, "{3 4 [{a 1 4 [] 3 0 0}]} 4 7: c"},
		{each, "Ja =a =b =c Ra1 Aa2 Ra3", 2, "{3 4 [{a 1 4 [] 1 0 2}]} 4 7: c"},
		{each, "Ja =a =b +c Aa1 Aa2", 2, "{3 4 [{a 1 3 [] 2 0 0}]} 3 7: c"},
		{each, "Ja =a =b =c Aa2 Aa3", 0, "{1 4 [{a 1 1 [2 3] 2 0 0}]} 4 21: a b c"},
		{each, "Ja =a =b =c Aa1 Aa3", 1, "{2 4 [{a 1 2 [3] 2 0 0}]} 4 14: b c"},
		{each, "Ja Jb =a =b =c Aa1 Aa2 Aa3", 0, "{1 4 [{a 1 4 [] 3 0 0} {b 1 1 [] 0 0 0}]} 4 21: a b c"},
		{each, "Ja Jb =a =b =c Aa1 Aa2 Aa3 Ab1", 1, "{2 4 [{a 1 4 [] 3 0 0} {b 1 2 [] 1 0 0}]} 4 14: b c"},
		{each, "Jb Ja =a =b =c Aa1 Ab1 Aa2 Aa3", 1, "{2 4 [{b 1 2 [] 1 0 0} {a 1 4 [] 3 0 0}]} 4 14: b c"},
		{each, "Ja Jb =a =b =c Aa1 Aa2 Aa3 Lb", 2, "{3 4 [{a 1 4 [] 3 0 0}]} 4 7: c"},
		{each, "=a =b Ja =c", 2, "{3 4 [{a 3 3 [] 0 0 0}]} 4 7: c"}, // it joined behind them
		{twos, "Ja =a =b =c =d =e Aa1 Aa2 Aa3", 1, "{3 6 [{a 1 4 [] 3 0 0}]} 6 21: c d e"},
		{twos, "Ja =a =b =c =d =e Aa1 Aa2", 1, "{3 6 [{a 1 3 [] 2 0 0}]} 6 21: c d e"}, // the second one's First is Free
		{twos, "Ja =a =b =c =d =e Aa1 Aa3 Aa4 Aa5", 0, "{1 6 [{a 1 2 [3 4 5] 4 0 0}]} 6 35: a b c d e"},
		{twos, "Ja =a =b =c =d =e Aa1 Aa2 Aa3 Aa4 Aa5", 2, "{5 6 [{a 1 6 [] 5 0 0}]} 6 7: e"},
	} {
		d, s := opened(t, c.c, c.words)
		costs(t, d, s, "C", 8*c.gone)
		tells(t, s, c.want)
		costs(t, d, s, "C", 0)
		if c.gone > 0 {
			marked(t, d, s)
		}
		does(t, s, "M S")
		tells(t, open(t, d, c.c), said(s))
	}
}

func TestL4ReclaimThatFails(t *testing.T) {
	const start = "Ja =a =b =c =d Aa1 Aa2 Aa3 Aa4"
	for n, want := range map[int]string{
		1: "{1 5 [{a 1 5 [] 4 0 0}]} 5 28: a b c d",
		2: "{1 5 [{a 1 5 [] 4 0 0}]} 5 28: a b c d",
		3: "{2 5 [{a 1 5 [] 4 0 0}]} 5 21: b c d",
		4: "{2 5 [{a 1 5 [] 4 0 0}]} 5 21: b c d",
		6: "{3 5 [{a 1 5 [] 4 0 0}]} 5 14: c d",
	} {
		d, s := opened(t, each, start)
		d.Fail(n)
		if e := s.Reclaim(); e != api.ErrIO {
			t.Error(n, e)
		}
		tells(t, s, want)
		does(t, s, "C")
		tells(t, s, "{4 5 [{a 1 5 [] 4 0 0}]} 5 7: d")
	}
	d, s := opened(t, each, start)
	right(t, d.Rename(segment.Name(2), "away"))
	if e := s.Reclaim(); e != api.ErrNone { // of Drop
		t.Error(e)
	}
	if l := s.Ledger(); l.First != 3 || names(d) != "away ck s3 s4" {
		t.Error(l, names(d))
	}
	right(t, d.Rename("away", segment.Name(2)))
	does(t, s, "C")
	tells(t, s, "{4 5 [{a 1 5 [] 4 0 0}]} 5 7: d")
}

// TestEvictMarksAheadOfDropping: else what is gone was not counted, when the power goes.
func TestEvictMarksAheadOfDropping(t *testing.T) {
	for n := range 9 {
		d, s := opened(t, each, "Ja =a =b Aa1")
		d.Stop(n)
		if e := s.Reclaim(); (e == api.OK) != (n >= 8) || e != api.OK && e != api.ErrDead {
			t.Error(n, e)
		}
		there := names(d.Crash(everything(all)))
		if strings.Contains(there, "s1") != (n < 7) { // six operations of the mark are ahead of it
			t.Error(n, there)
		}
		for _, k := range fronts(d) {
			l := open(t, d.Crash(k), each).Ledger()
			if n < 5 && l.First != 1 || n >= 6 && l.First != 2 || !ledger.Right(l) {
				t.Fatal(n, k, l)
			}
		}
	}
}

// TestL5EachIsCountedOnce: a waits for all, b and c had some, d joined late, and what was done was done.
func TestL5EachIsCountedOnce(t *testing.T) {
	d, s := opened(t, spool.Config{Budget: 2016, Segment: 14}, "Ja Jb Jc =a =b =c Jd =d Ab1 Rc2 Ac3 Ad4")
	does(t, s, "=x*1990") // 28 and 1997 bytes
	tells(t, s, "{3 6 [{a 1 3 [] 0 2 0} {b 1 3 [] 1 1 0} {c 1 4 [] 1 1 1} {d 4 5 [] 1 0 0}]} 6 2011: c d x*1990")
	does(t, s, "Lb Jb Aa4 Ra5 +e")
	tells(t, s, "{5 7 [{a 1 6 [] 1 3 1} {c 1 5 [] 1 2 1} {d 4 5 [] 1 0 0} {b 6 6 [] 0 0 0}]} 6 2004: x*1990 e")
	does(t, s, "=f*20")
	tells(t, s, "{6 8 [{a 1 6 [] 1 3 1} {c 1 6 [] 1 3 1} {d 4 6 [] 1 1 0} {b 6 6 [] 0 0 0}]} 8 33: e f*20")
	for _, name := range []string{"a", "b", "c", "d"} {
		if got := ledger.Pending(s.Ledger(), name); fmt.Sprint(got) != "[6 7]" {
			t.Error(name, got)
		}
	}
	tells(t, open(t, d, each), said(s))
}

// TestL5WhatErrsChangesNothing: each call that is refused, whatever by.
func TestL5WhatErrsChangesNothing(t *testing.T) {
	d, s := opened(t, pairs, "Ja Jb =a =b =c Aa1 Rb2 =d")
	refuses(t, s, api.ErrNone, "Lc Ac1 Rc1")
	refuses(t, s, api.ErrState, "Aa1 Ra1 Rb2 Aa9 Rb0")
	refuses(t, s, api.ErrThere, "Ja Jb")
	refuses(t, s, api.ErrName, "J? J")
	refuses(t, s, api.ErrLong, "=x*2001 +x*2001")
	for n, words := range []string{"=e +e Ra2 Jc La M", "=e Ra2 Jc La M"} {
		for _, word := range strings.Fields(words) {
			d.Fail(n + 1)
			refuses(t, s, api.ErrIO, word)
		}
	}
	d.Fail(0)
	put(t, d, "full", strings.Repeat("x", roomy-d.Used()))
	refuses(t, s, api.ErrFull, "=e +e Ra2 Jc La M")
	tells(t, open(t, d.Crash(everything(all)), pairs), "{1 5 [{a 1 2 [] 1 0 0} {b 1 1 [2] 0 0 1}]} 5 28: a b c d")
}

// TestLedgersAreNew: what was handed out is not changed, and changes nothing.
func TestLedgersAreNew(t *testing.T) {
	_, s := opened(t, each, "Ja Jb =a =b =c =d =e Aa2 Ab4")
	const was = "{1 6 [{a 1 1 [2] 1 0 0} {b 1 1 [4] 1 0 0}]}"
	for _, word := range strings.Fields("+f Aa4 Aa1 Rb1 Ra3 Ab2 C Jc Lb S M =x*2000 =y*2000 La") {
		before := s.Ledger()
		text := fmt.Sprint(before)
		does(t, s, word)
		if got := fmt.Sprint(before); got != text {
			t.Fatalf("%s: it is %s, not %s", word, got, text)
		}
	}
	_, s = opened(t, each, "Ja Jb =a =b =c =d =e Aa2 Ab4")
	for _, spoil := range []func(ledger.Ledger){
		func(l ledger.Ledger) { l.Dests[0] = ledger.Dest{Name: "z"} },
		func(l ledger.Ledger) { l.Dests[1].Above[0] = 77 },
		func(l ledger.Ledger) { l.Dests[0].Above[0] = 5 },
		func(l ledger.Ledger) { _ = append(l.Dests[0].Above, 7) },
		func(l ledger.Ledger) { _ = append(l.Dests[:1], ledger.Dest{Name: "z"}) },
		func(l ledger.Ledger) { l.Dests[0].Acked, l.Dests[1].Low = 9, 9 },
	} {
		spoil(s.Ledger())
		if got := fmt.Sprint(s.Ledger()); got != was {
			t.Fatalf("it is %s, not %s", got, was)
		}
	}
	one, two := s.Ledger(), s.Ledger()
	one.Dests[0].Above[0] = 77
	if fmt.Sprint(two) != was {
		t.Error(two)
	}
}

func TestLedgersOfAMarkAreNew(t *testing.T) {
	d, _ := opened(t, each, "Ja =a =b =c Aa2 M")
	s := open(t, d, each)
	l := s.Ledger()
	l.Dests[0].Above[0], l.Dests[0].Name = 77, "z"
	tells(t, s, "{1 4 [{a 1 1 [2] 1 0 0}]} 4 21: a b c")
	tells(t, open(t, d.Crash(disk.Keep{}), each), "{1 4 [{a 1 1 [2] 1 0 0}]} 4 21: a b c")
}
