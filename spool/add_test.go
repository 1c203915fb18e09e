package spool_test

import (
	"fmt"
	"strings"
	"testing"

	"postroom/api"
	"postroom/disk"
	"postroom/frame"
	"postroom/segment"
	"postroom/spool"
)

// costs wants OK of a word, and so many operations.
func costs(t *testing.T, d *disk.Disk, s *spool.Spool, word string, want int) {
	t.Helper()
	ops := d.Ops()
	does(t, s, word)
	if d.Ops() != ops+want {
		t.Fatalf("%s: %d operations, not %d", word, d.Ops()-ops, want)
	}
}

// numbered wants a number of an Add.
func numbered(t *testing.T, s *spool.Spool, word string, want uint64) {
	t.Helper()
	if seq, e := act(s, word); seq != want || e != api.OK {
		t.Fatalf("%s: %d, %v, not %d", word, seq, e, want)
	}
}

// opened is a new disk, and a spool on it that did some words.
func opened(t *testing.T, c spool.Config, words string) (*disk.Disk, *spool.Spool) {
	t.Helper()
	d := disk.New(roomy)
	s := open(t, d, c)
	does(t, s, words)
	return d, s
}

// crowded is a spool above its budget, as the eviction behind its last Add failed.
func crowded(t *testing.T) (*disk.Disk, *spool.Spool) {
	t.Helper()
	d, s := opened(t, each, "=x*1990 =a =b")
	d.Fail(4) // of a Roll's Sync, an Append, a Sync, and the mark's Append
	numbered(t, s, "=c", 4)
	tells(t, s, "{1 5 []} 5 2018: x*1990 a b c")
	return d, s
}

func TestL2Add(t *testing.T) {
	d, s := opened(t, wide, "")
	ops := d.Ops()
	for i, word := range []string{"+a", "+", "=c", "+d", "=" + strings.Repeat("e", 11), "=\x00\xff", "+x*2000", "=y*2000"} {
		numbered(t, s, word, uint64(i+1))
		if l := s.Ledger(); l.Next != uint64(i+2) {
			t.Fatal(word, l)
		}
	}
	for i, body := range []string{"a", "", "c", "d", "eeeeeeeeeee", "\x00\xff", strings.Repeat("x", 2000), strings.Repeat("y", 2000)} {
		if got, e := s.Get(uint64(i + 1)); got != body || e != api.OK {
			t.Error(i+1, got, e)
		}
	}
	if d.Ops() != ops+1+1+3+1+3+2+1+3 {
		t.Error(d.Ops() - ops)
	}
}

func TestL2SyncedOrNot(t *testing.T) {
	d, s := opened(t, wide, "Ja")
	costs(t, d, s, "+a", 1)
	costs(t, d, s, "+b", 1)
	tells(t, s, "{1 3 [{a 1 1 [] 0 0 0}]} 1 14: a b")
	costs(t, d, s, "=c", 3) // the Sync ahead, as two are not durable
	tells(t, s, "{1 4 [{a 1 1 [] 0 0 0}]} 4 21: a b c")
	costs(t, d, s, "=d", 2)
	costs(t, d, s, "+e", 1)
	tells(t, s, "{1 6 [{a 1 1 [] 0 0 0}]} 5 35: a b c d e")
	tells(t, open(t, d.Crash(disk.Keep{}), wide), "{1 5 [{a 1 1 [] 0 0 0}]} 5 28: a b c d")
	costs(t, d, s, "S", 1)
	tells(t, s, "{1 6 [{a 1 1 [] 0 0 0}]} 6 35: a b c d e")
	tells(t, open(t, d.Crash(disk.Keep{}), wide), "{1 6 [{a 1 1 [] 0 0 0}]} 6 35: a b c d e")
	costs(t, d, s, "S", 0)
}

func TestL2BodiesThatAreTooLong(t *testing.T) {
	one := func(t *testing.T) (*disk.Disk, *spool.Spool) { return opened(t, wide, "=a +b") }
	two := func(t *testing.T) (*disk.Disk, *spool.Spool) { return opened(t, pairs, "=a +b +c") }
	none := func(t *testing.T) (*disk.Disk, *spool.Spool) { return opened(t, each, "") }
	for what, start := range map[string]func(*testing.T) (*disk.Disk, *spool.Spool){"none": none, "one segment": one, "two": two, "above the budget": crowded} {
		d, s := start(t)
		was, ops := files(d), d.Ops()
		d.Fail(1)
		refuses(t, s, api.ErrLong, "=z*2001 +z*2001 =z*3000 +z*70000")
		d.Stop(0)
		refuses(t, s, api.ErrLong, "=z*2001 +z*2001") // ahead of all that a disk tells
		d.Stop(-1)
		if files(d) != was || d.Ops() != ops {
			t.Errorf("%s: there is %q, behind %d operations", what, files(d), d.Ops()-ops)
		}
		d.Fail(0)
		next := s.Ledger().Next
		numbered(t, s, "+z*2000", next)
		numbered(t, s, "=z*2000", next+1)
		if got, e := s.Get(next + 1); len(got) != 2000 || e != api.OK {
			t.Error(what, len(got), e)
		}
	}
}

// TestL2WhatFits: a frame has its length, its number, four bytes, and its body; a number from 128 on has two bytes.
func TestL2WhatFits(t *testing.T) {
	for _, c := range []struct {
		first   uint64
		segment int
		words   string
		want    string
	}{
		{1, 20, "+a +b +", "s1"}, // just as many as there may be
		{1, 20, "+a +b +c", "s1 s3"},
		{1, 21, "+a +b +c", "s1"},
		{1, 20, "=a =b = =", "s1 s4"},
		{1, 20, "=a =b =c =d =e", "s1 s3 s5"},
		{1, 20, "+a +x*15 +b", "s1 s2 s3"},
		{1, 6, "+ + +", "s1 s2 s3"},
		{1, 11, "+ + +", "s1 s2 s3"},
		{1, 12, "+ + +", "s1 s3"},
		{1, 1, "+x*2000 +", "s1 s2"}, // into an empty one anything goes
		{1, 2012, "+x*2000 +", "s1 s2"},
		{1, 2013, "+x*2000 +", "s1"},
		{1, 7 + 133, "+a +x*127", "s1"}, // the length has one byte, and then two
		{1, 7 + 132, "+a +x*127", "s1 s2"},
		{1, 7 + 135, "+a +x*128", "s1"},
		{1, 7 + 134, "+a +x*128", "s1 s2"},
		{126, 14, "+a +b +c", "s126 s128"},
		{127, 15, "+a +b", "s127"}, // the number has
		{127, 14, "+a +b", "s127 s128"},
		{1 << 63, 32, "+a +b", "s9223372036854775808"},
		{1 << 63, 31, "+a +b", "s9223372036854775808 s9223372036854775809"},
	} {
		d := lay(t, ledgerOf(c.first, c.first), []part{{c.first, ""}})
		s := open(t, d, spool.Config{Budget: 1 << 16, Segment: c.segment})
		does(t, s, c.words)
		if got := names(d); got != "ck "+c.want {
			t.Errorf("%d, %d, %s: there is %s, not %s", c.first, c.segment, c.words, got, c.want)
		}
	}
}

func TestL2RollBegins(t *testing.T) {
	d, s := opened(t, each, "+a")
	costs(t, d, s, "+b", 4) // three of Roll: what is ahead is durable then
	tells(t, s, "{1 3 []} 2 14: a b")
	costs(t, d, s, "=c", 5)
	tells(t, s, "{1 4 []} 4 21: a b c")
	d.Fail(1)
	refuses(t, s, api.ErrIO, "=d")
	d.Fail(1)
	refuses(t, s, api.ErrIO, "+d")
	put(t, d, segment.Name(4), "in the way")
	refuses(t, s, api.ErrThere, "+d =d")
	right(t, d.Remove(segment.Name(4)))
	if names(d) != "s1 s2 s3" {
		t.Error(names(d))
	}
	d.Fail(2)
	refuses(t, s, api.ErrIO, "=d") // behind the Roll, which stays
	if names(d) != "s1 s2 s3 s4" {
		t.Error(names(d))
	}
	costs(t, d, s, "=d", 2)
	tells(t, s, "{1 5 []} 5 28: a b c d")
	tells(t, open(t, d.Crash(disk.Keep{}), each), "{1 5 []} 5 28: a b c d")
}

func TestL2UndoOfABodyThatIsNotSynced(t *testing.T) {
	d, s := opened(t, wide, "Ja =a +b")
	d.Fail(1)
	refuses(t, s, api.ErrIO, "=c") // the Sync ahead
	tells(t, s, "{1 3 [{a 1 1 [] 0 0 0}]} 2 14: a b")
	d.Fail(2)
	if seq, e := act(s, "=c"); seq != 0 || e != api.ErrIO { // the Append: what is ahead is durable now
		t.Fatal(seq, e)
	}
	tells(t, s, "{1 3 [{a 1 1 [] 0 0 0}]} 3 14: a b")
	does(t, s, "+c")
	d.Fail(3)
	ops := d.Ops()
	if seq, e := act(s, "=d"); seq != 0 || e != api.ErrIO { // the Sync behind
		t.Fatal(seq, e)
	}
	if d.Ops() != ops+4 { // Sync, Append, Sync, Cut
		t.Error(d.Ops() - ops)
	}
	tells(t, s, "{1 4 [{a 1 1 [] 0 0 0}]} 4 21: a b c") // just that body is gone
	if got, _ := d.Read(segment.Name(1)); len(got) != 21 {
		t.Error(len(got))
	}
	does(t, s, "=D")
	tells(t, s, "{1 5 [{a 1 1 [] 0 0 0}]} 5 28: a b c D")
	tells(t, open(t, d, wide), "{1 5 [{a 1 1 [] 0 0 0}]} 5 28: a b c D")
}

func TestL2UndosErrorIsNotTold(t *testing.T) {
	d, s := opened(t, wide, "=a")
	d.Fail(2)
	d.Stop(2) // for the Append and the Sync, but not for the Cut
	if seq, e := act(s, "=b"); seq != 0 || e != api.ErrIO {
		t.Error(seq, e)
	}
	for moments, want := range map[int]string{0: "{1 2 []} 2 7: a", 6: "{1 2 []} 2 7: a", 7: "{1 3 []} 3 14: a b", 8: "{1 3 []} 3 14: a b"} {
		tells(t, open(t, d.Crash(disk.Keep{Files: []int{moments}}), wide), want)
	}
}

func TestL2AnAppendThatFails(t *testing.T) {
	d, s := opened(t, wide, "+a")
	d.Fail(1)
	refuses(t, s, api.ErrIO, "+b")
	d.Fail(2)
	numbered(t, s, "+b", 2) // one that is not synced is an Append alone
	refuses(t, s, api.ErrIO, "+c")
	numbered(t, s, "+c", 3)
	tells(t, s, "{1 4 []} 1 21: a b c")

	d = disk.New(20)
	s = open(t, d, wide)
	does(t, s, "+a =b")
	refuses(t, s, api.ErrFull, "+c =c +x*2000")
	numbered(t, s, "=", 3)
	refuses(t, s, api.ErrFull, "+ =")
	tells(t, s, "{1 4 []} 4 20: a b ")
}

func TestL2TheBudget(t *testing.T) {
	for word, want := range map[string]string{
		"=bbbbbb":  "{1 4 []} 4 2016: x*1990 a bbbbbb", // just as much as there may be
		"+bbbbbb":  "{1 4 []} 3 2016: x*1990 a bbbbbb",
		"=bbbbbbb": "{2 4 []} 4 20: a bbbbbbb",
		"+bbbbbbb": "{2 4 []} 3 20: a bbbbbbb",
		"=y*1990":  "{2 4 []} 4 2004: a y*1990",
		"=y*2000":  "{2 4 []} 4 2014: a y*2000",
	} {
		d, s := opened(t, each, "=x*1990 =a")
		numbered(t, s, word, 3)
		tells(t, s, want)
		does(t, s, "S")
		tells(t, open(t, d, each), said(s))
	}
}

// TestL2EvictsUpToTheBudget: so many segments as must go, and no more.
func TestL2EvictsUpToTheBudget(t *testing.T) {
	d, s := opened(t, each, "Ja =a =b =c =d =e =f =g =h =i =j Aa2 Ra9")
	costs(t, d, s, "=x*1990", 5+8*8) // 70 bytes, and 1997: eight segments of 7 go
	tells(t, s, "{9 12 [{a 1 10 [] 1 7 1}]} 12 2011: i j x*1990")
	if names(d) != "ck s9 s10 s11" {
		t.Error(names(d))
	}
	tells(t, open(t, d, each), "{9 12 [{a 1 10 [] 1 7 1}]} 12 2011: i j x*1990")
}

func TestL2ErrorsOfTheEvictionsBehindAreNotTold(t *testing.T) {
	for n := range 16 { // three of Roll, two of Add, six of the mark, two of Drop
		d, s := opened(t, each, "Ja =x*1990 =a")
		d.Stop(n)
		seq, e := act(s, "=bbbbbbbb")
		if n < 5 && (seq != 0 || e != api.ErrDead) || n >= 5 && (seq != 3 || e != api.OK) {
			t.Error(n, seq, e)
		}
	}
	for n, want := range map[int]string{
		4: "{1 4 [{a 1 1 [] 0 0 0}]} 4 2018: x*1990 a bbbbbbbb",
		5: "{1 4 [{a 1 1 [] 0 0 0}]} 4 2018: x*1990 a bbbbbbbb",
		6: "{2 4 [{a 1 2 [] 0 1 0}]} 4 21: a bbbbbbbb",
	} {
		d, s := opened(t, each, "Ja =x*1990 =a")
		d.Fail(n)
		numbered(t, s, "=bbbbbbbb", 3)
		tells(t, s, want)
		d.Fail(0)
		does(t, s, "=c")
		tells(t, s, "{2 5 [{a 1 2 [] 0 1 0}]} 5 28: a bbbbbbbb c")
		tells(t, open(t, d, each), "{2 5 [{a 1 2 [] 0 1 0}]} 5 28: a bbbbbbbb c")
	}
}

func TestL2EvictionsEndAtTheFirstError(t *testing.T) {
	d, s := opened(t, each, "Ja =a =b =c =d =e =f =g =h =i =j")
	d.Fail(6) // behind three of Roll and Add, and two of the first mark
	numbered(t, s, "=x*1990", 11)
	const rest = " b c d e f g h i j x*1990"
	tells(t, s, "{2 12 [{a 1 2 [] 0 1 0}]} 12 2060:"+rest)
	for _, word := range []string{"+z", "=z"} {
		d.Fail(1)
		refuses(t, s, api.ErrIO, word)
	}
	d.Fail(3)
	if seq, e := act(s, "+z"); seq != 0 || e != api.ErrIO { // but for what it evicted ahead of that
		t.Fatal(seq, e)
	}
	tells(t, s, "{3 12 [{a 1 3 [] 0 2 0}]} 12 2053:"+rest[2:])
	if names(d) != "ck s3 s4 s5 s6 s7 s8 s9 s10 s11" { // nothing was rolled
		t.Error(names(d))
	}
	costs(t, d, s, "+z", 6*8+4+8) // six more must go ahead of it, and then one more
	tells(t, s, "{10 13 [{a 1 10 [] 0 9 0}]} 12 2011: j x*1990 z")
}

func TestL2EvictsAheadOfAll(t *testing.T) {
	d, s := crowded(t)
	for n := range 2 {
		d.Fail(n + 1)
		refuses(t, s, api.ErrIO, "=d")
		d.Fail(n + 1)
		refuses(t, s, api.ErrIO, "+d")
	}
	if names(d) != "s1 s2 s3 s4" {
		t.Error(names(d))
	}
	right(t, d.Rename(segment.Name(1), "away"))
	for range 2 {
		if seq, e := act(s, "=d"); seq != 0 || e != api.ErrNone { // it is marked, but can't be dropped
			t.Error(seq, e)
		}
	}
	if l := s.Ledger(); l.First != 2 || l.Next != 5 {
		t.Error(l)
	}
	right(t, d.Rename("away", segment.Name(1)))
	costs(t, d, s, "=d", 8+5)
	tells(t, s, "{2 6 []} 6 28: a b c d")
}

// TestL2TheLastSegmentStays: however much it has.
func TestL2TheLastSegmentStays(t *testing.T) {
	d, s := opened(t, wide, "Ja =a*1500 =b*1500 =c*1500")
	s = open(t, d, each)
	was := "{1 4 [{a 1 1 [] 0 0 0}]} 4 4521: a*1500 b*1500 c*1500"
	tells(t, s, was)
	refuses(t, s, api.ErrLong, "=x*2001")
	d.Fail(1)
	refuses(t, s, api.ErrIO, "+d") // of Roll: nothing is evicted ahead of it
	costs(t, d, s, "+d", 4+8)
	tells(t, s, "{4 5 [{a 1 4 [] 0 3 0}]} 4 7: d")
	s = open(t, d, spool.Config{Budget: 2016, Segment: 2016})
	does(t, s, "=x*2000") // 2014 bytes
	tells(t, s, "{4 6 [{a 1 4 [] 0 3 0}]} 6 2014: d x*2000")
	does(t, s, "=y")
	tells(t, s, "{6 7 [{a 1 6 [] 0 5 0}]} 7 7: y")
}

// TestL2TheBiggestFrame: one of MaxFrame bytes has room in each budget.
func TestL2TheBiggestFrame(t *testing.T) {
	const first = 1 << 63
	d := lay(t, ledgerOf(first, first, owes("a", first, first)), []part{{first, ""}})
	s := open(t, d, each)
	for i := range uint64(3) {
		numbered(t, s, "=x*2000", first+i)
		if s.Bytes() != spool.MaxFrame || frame.Size(first+i, strings.Repeat("x", 2000)) != spool.MaxFrame {
			t.Error(s.Bytes())
		}
		if l := s.Ledger(); l.First != first+i || fmt.Sprint(l.Dests[0].Evicted) != fmt.Sprint(i) {
			t.Error(l)
		}
	}
}

func TestL2SyncAndGet(t *testing.T) {
	d, s := opened(t, pairs, "Ja +a +b +c")
	tells(t, s, "{1 4 [{a 1 1 [] 0 0 0}]} 3 21: a b c")
	d.Fail(1)
	refuses(t, s, api.ErrIO, "S")
	d.Stop(0)
	if e := s.Sync(); e != api.ErrDead {
		t.Error(e)
	}
	d.Stop(-1)
	costs(t, d, s, "S", 1)
	tells(t, s, "{1 4 [{a 1 1 [] 0 0 0}]} 4 21: a b c")
	for _, seq := range []uint64{0, 4, 5, 1 << 63, 1<<64 - 1} {
		if body, e := s.Get(seq); body != "" || e != api.ErrNone {
			t.Error(seq, body, e)
		}
	}
	right(t, d.Rename(segment.Name(1), "away"))
	if body, e := s.Get(1); body != "" || e != api.ErrNone {
		t.Error(body, e)
	}
	if body, e := s.Get(3); body != "c" || e != api.OK {
		t.Error(body, e)
	}
	d.Stop(0)
	if body, e := s.Get(3); body != "" || e != api.ErrDead {
		t.Error(body, e)
	}
}
