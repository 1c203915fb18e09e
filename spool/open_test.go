package spool_test

import (
	"fmt"
	"math"
	"slices"
	"strings"
	"testing"

	"postroom/api"
	"postroom/disk"
	"postroom/frame"
	"postroom/ledger"
	"postroom/mark"
	"postroom/segment"
	"postroom/spool"
)

var (
	pairs = spool.Config{Budget: 2016, Segment: 20} // two frames of a byte a segment
	each  = spool.Config{Budget: 2016, Segment: 1}  // a segment for each body
	wide  = spool.Config{Budget: 1 << 16, Segment: 1 << 16}
)

func TestL1Check(t *testing.T) {
	for _, c := range []struct {
		budget, segment int
		want            api.Errno
	}{
		{2016, 1, api.OK}, {2016, 2, api.OK}, {2016, 2015, api.OK}, {2016, 2016, api.OK},
		{2017, 1, api.OK}, {2017, 2017, api.OK}, {1 << 40, 1, api.OK}, {1 << 40, 1 << 40, api.OK},
		{math.MaxInt, 1, api.OK}, {math.MaxInt, math.MaxInt, api.OK}, {math.MaxInt - 1, math.MaxInt - 1, api.OK},
		{0, 0, api.ErrArg}, {2016, 0, api.ErrArg}, {2016, -1, api.ErrArg}, {2016, math.MinInt, api.ErrArg},
		{2016, 2017, api.ErrArg}, {2016, math.MaxInt, api.ErrArg}, {3000, 3001, api.ErrArg}, {math.MaxInt - 1, math.MaxInt, api.ErrArg},
		{2015, 1, api.ErrArg}, {2015, 2015, api.ErrArg}, {2015, 2016, api.ErrArg}, {2000, 100, api.ErrArg}, {1, 1, api.ErrArg},
		{0, 1, api.ErrArg}, {-1, -1, api.ErrArg}, {-1, 1, api.ErrArg}, {math.MinInt, 1, api.ErrArg}, {math.MinInt, math.MinInt, api.ErrArg},
	} {
		k := spool.Config{Budget: c.budget, Segment: c.segment}
		if e := spool.Check(k); e != c.want {
			t.Errorf("%v: %v, not %v", k, e, c.want)
		}
		d := disk.New(roomy)
		put(t, d, "ck~", "x")
		was, ops := files(d), d.Ops()
		s, e := spool.Open(d, k)
		if e != c.want || (s == nil) != (e != api.OK) {
			t.Errorf("%v: %v, %v, not %v", k, s, e, c.want)
		}
		if e != api.OK && (files(d) != was || d.Ops() != ops) {
			t.Errorf("%v: there is %q, not %q", k, files(d), was)
		}
	}
	if n := frame.Size(math.MaxUint64, strings.Repeat("x", api.MaxBody)); spool.MaxFrame != 2016 || n != spool.MaxFrame {
		t.Error(spool.MaxFrame, n)
	}
}

// put makes a file in the plain way; nothing of it is synced.
func put(t *testing.T, d *disk.Disk, name, s string) {
	t.Helper()
	right(t, d.Create(name), d.Append(name, s))
}

// A part is a segment, its bodies as words.
type part struct {
	first  uint64
	bodies string
}

// lay is a disk with a mark, if it is any, and segments.
func lay(t *testing.T, l ledger.Ledger, parts []part) *disk.Disk {
	t.Helper()
	d := disk.New(roomy)
	if l.First != 0 {
		s, e := mark.Put(l)
		right(t, e)
		put(t, d, "ck", s)
	}
	for _, p := range parts {
		text := ""
		for i, body := range strings.Fields(p.bodies) {
			s, e := frame.Put(p.first+uint64(i), body)
			right(t, e)
			text += s
		}
		put(t, d, segment.Name(p.first), text)
	}
	return d
}

// names are those of a disk, in short: s1 is the segment of 1.
func names(d *disk.Disk) string {
	l := d.List()
	for i, name := range l {
		if name[0] == 's' {
			l[i] = "s" + strings.TrimLeft(name[1:], "0")
		}
	}
	return strings.Join(l, " ")
}

func notOpened(t *testing.T, d *disk.Disk, c spool.Config, want api.Errno) {
	t.Helper()
	if s, e := spool.Open(d, c); s != nil || e != want {
		t.Fatalf("%v, %v, not %v", s, e, want)
	}
}

func TestL1OpenOfAnEmptyDisk(t *testing.T) {
	for _, room := range []int{0, 1, roomy} {
		d := disk.New(room)
		tells(t, open(t, d, pairs), "{1 1 []} 1 0:")
		if names(d) != "s1" || d.Ops() != 3 { // SyncDir of Clean, Create, SyncDir
			t.Error(names(d), d.Ops())
		}
		tells(t, open(t, d.Crash(disk.Keep{}), pairs), "{1 1 []} 1 0:")
	}
}

// owes is a destination, of which all that is done was acked.
func owes(name string, since, low uint64, above ...uint64) ledger.Dest {
	return ledger.Dest{Name: name, Since: since, Low: low, Above: above, Acked: low - since + uint64(len(above))}
}

func ledgerOf(first, next uint64, l ...ledger.Dest) ledger.Ledger {
	return ledger.Ledger{First: first, Next: next, Dests: l}
}

// A laid is what a disk has, what Open tells of it (nothing: ErrForm), and the names that there are behind that.
type laid struct {
	mark  ledger.Ledger
	parts []part
	want  string
	names string
}

func (c laid) try(t *testing.T) {
	t.Helper()
	d := lay(t, c.mark, c.parts)
	if c.want == "" {
		notOpened(t, d, each, api.ErrForm)
	} else {
		tells(t, open(t, d, each), c.want)
		tells(t, open(t, d, each), c.want)
		tells(t, open(t, d.Crash(everything(all)), pairs), c.want)
	}
	if got := names(d); got != c.names {
		t.Fatalf("%v: there is %s, not %s", c, got, c.names)
	}
}

func TestL1OpenWithoutAMark(t *testing.T) {
	none := ledger.Ledger{}
	for _, c := range []laid{
		{none, []part{{1, ""}}, "{1 1 []} 1 0:", "s1"},
		{none, []part{{1, "a b"}, {3, "c"}}, "{1 4 []} 4 21: a b c", "s1 s3"},
		{none, []part{{1, "a"}, {2, ""}}, "{1 2 []} 2 7: a", "s1 s2"},
		{none, []part{{2, ""}}, "", "s2"},
		{none, []part{{2, "b"}, {3, "c"}}, "", "s2 s3"},
		{none, []part{{0, "z"}, {1, "a"}}, "{1 2 []} 2 7: a", "s1"}, // that of 0 is below the first number
		{none, []part{{0, "z"}}, "", "s"},
		{none, []part{{0, "z a"}, {2, "b"}}, "", "s2"},
	} {
		c.try(t)
	}
}

func TestL1OpenWithAMarkAndNoLog(t *testing.T) {
	for _, c := range []laid{
		{ledgerOf(1, 1), nil, "{1 1 []} 1 0:", "ck s1"},
		{ledgerOf(1, 1, owes("a", 1, 1)), nil, "{1 1 [{a 1 1 [] 0 0 0}]} 1 0:", "ck s1"},
		{ledgerOf(1, 9, owes("a", 1, 1)), nil, "{1 1 [{a 1 1 [] 0 0 0}]} 1 0:", "ck s1"},
		{ledgerOf(1, 9, owes("a", 1, 1), owes("b", 9, 9)), nil, "", "ck s1"},
		{ledgerOf(1, 2, owes("a", 1, 2)), nil, "", "ck s1"},
		{ledgerOf(1, 3, owes("a", 1, 1, 2)), nil, "", "ck s1"},
		{ledgerOf(2, 2), nil, "", "ck s1"},
		{ledgerOf(5, 9, owes("a", 5, 5)), nil, "", "ck s1"},
	} {
		c.try(t)
	}
}

func TestL1OpenWithSegmentsBelowFirst(t *testing.T) {
	a := owes("a", 1, 4)
	for _, c := range []laid{
		{ledgerOf(4, 4, a), []part{{1, "a b"}, {3, "c"}, {4, "d e"}}, "{4 6 [{a 1 4 [] 3 0 0}]} 6 14: d e", "ck s4"},
		{ledgerOf(4, 9, a), []part{{1, "a b"}, {3, "c"}, {4, "d"}, {5, "e"}}, "{4 6 [{a 1 4 [] 3 0 0}]} 6 14: d e", "ck s4 s5"},
		{ledgerOf(4, 4, a), []part{{1, "a b c"}, {4, ""}}, "{4 4 [{a 1 4 [] 3 0 0}]} 4 0:", "ck s4"},
		{ledgerOf(3, 4, a), []part{{3, "c"}, {4, "d"}}, "{3 5 [{a 1 4 [] 3 0 0}]} 5 14: c d", "ck s3 s4"}, // not below: it stays
		{ledgerOf(4, 4, a), []part{{4, ""}}, "{4 4 [{a 1 4 [] 3 0 0}]} 4 0:", "ck s4"},
		{ledgerOf(1<<63, 1<<63), []part{{1<<63 - 1, "a"}, {1 << 63, "b"}}, "{9223372036854775808 9223372036854775809 []} 9223372036854775809 16: b", "ck s9223372036854775808"},
		{ledgerOf(9, 9), []part{{1, "a"}, {2, "b"}, {3, "c"}}, "", "ck s3"}, // the last one stays
		{ledgerOf(2, 3), []part{{1, "a b"}, {3, "c"}}, "", "ck s3"},         // First lies in the midst of one
		{ledgerOf(math.MaxUint64, math.MaxUint64), []part{{1, "a"}, {2, "b"}}, "", "ck s2"},
	} {
		c.try(t)
	}
}

func TestL1OpenWithAnotherFirst(t *testing.T) {
	for _, c := range []laid{
		{ledgerOf(2, 4), []part{{1, "a b c"}}, "", "ck s1"},
		{ledgerOf(4, 4), []part{{1, "a b c"}}, "", "ck s1"},
		{ledgerOf(1, 4), []part{{2, "b"}, {3, "c"}}, "", "ck s2 s3"},
		{ledgerOf(1, 3), []part{{3, ""}}, "", "ck s3"},
		{ledgerOf(1, 1), []part{{1 << 63, ""}}, "", "ck s9223372036854775808"},
	} {
		c.try(t)
	}
}

func TestL1OpenWithAnotherNext(t *testing.T) {
	log := []part{{1, "a b"}, {3, "c"}} // Next is 4
	for _, c := range []laid{
		{ledgerOf(1, 1, owes("a", 1, 1)), log, "{1 4 [{a 1 1 [] 0 0 0}]} 4 21: a b c", "ck s1 s3"},
		{ledgerOf(1, 9, owes("a", 1, 1)), log, "{1 4 [{a 1 1 [] 0 0 0}]} 4 21: a b c", "ck s1 s3"},
		{ledgerOf(1, 2, owes("a", 1, 2)), log, "{1 4 [{a 1 2 [] 1 0 0}]} 4 21: a b c", "ck s1 s3"},
		{ledgerOf(1, 4, owes("a", 1, 4)), log, "{1 4 [{a 1 4 [] 3 0 0}]} 4 21: a b c", "ck s1 s3"},
		{ledgerOf(1, 9, owes("a", 1, 4)), log, "{1 4 [{a 1 4 [] 3 0 0}]} 4 21: a b c", "ck s1 s3"},
		{ledgerOf(1, 9, owes("a", 1, 5)), log, "", "ck s1 s3"},
		{ledgerOf(1, 9, owes("a", 1, 1, 3)), log, "{1 4 [{a 1 1 [3] 1 0 0}]} 4 21: a b c", "ck s1 s3"},
		{ledgerOf(1, 9, owes("a", 1, 1, 2, 4)), log, "", "ck s1 s3"},
		{ledgerOf(1, 9, owes("a", 4, 4)), log, "{1 4 [{a 4 4 [] 0 0 0}]} 4 21: a b c", "ck s1 s3"},
		{ledgerOf(1, 9, owes("a", 5, 5)), log, "", "ck s1 s3"},
		{ledgerOf(1, 9, owes("a", 1, 1), owes("b", 5, 5)), log, "", "ck s1 s3"},
	} {
		c.try(t)
	}
}

func TestL1OpenWithAMarkThatIsNone(t *testing.T) {
	good, e := mark.Put(ledgerOf(1, 4, owes("a", 1, 2)))
	right(t, e)
	for _, text := range []string{"", "x", "\x00", "\x01", "\x02\x01\x00", "\x01\x01\x05", good + "\x00", good[:len(good)-1], good[1:], good + good} {
		for _, with := range []bool{false, true} { // whatever the log is, it is not looked at
			d := disk.New(roomy)
			put(t, d, "ck", text)
			put(t, d, "ck~", good)
			was := "ck=" + text + "\n"
			if with {
				put(t, d, segment.Name(1), "no frame")
				put(t, d, segment.Name(2), "no frame")
				was += segment.Name(1) + "=no frame\n" + segment.Name(2) + "=no frame\n"
			}
			ops := d.Ops()
			notOpened(t, d, each, api.ErrForm)
			if files(d) != was || d.Ops() != ops+2 { // just Clean was done
				t.Fatalf("%q: there is %q, behind %d operations", text, files(d), d.Ops()-ops)
			}
		}
	}
}

func TestL1OpenWithALogThatIsNone(t *testing.T) {
	for _, parts := range [][]part{{{1, "a"}, {3, "c"}}, {{1, ""}, {2, "b"}}, {{1, "a b"}, {2, "b"}}} {
		d := lay(t, ledgerOf(1, 1), parts)
		was := files(d)
		notOpened(t, d, each, api.ErrForm)
		if files(d) != was {
			t.Errorf("%v: there is %q", parts, files(d))
		}
	}
}

func TestL1OpenWithWhatAWritingLeft(t *testing.T) {
	for _, other := range []string{"", "half of one", "\x01\x01\x00"} {
		d := lay(t, ledgerOf(1, 3, owes("a", 1, 3)), []part{{1, "a b"}})
		put(t, d, "ck~", other)
		put(t, d, "~", "")
		put(t, d, "other", "stays")
		ops := d.Ops()
		s := open(t, d, each)
		tells(t, s, "{1 3 [{a 1 3 [] 2 0 0}]} 3 14: a b")
		if names(d) != "ck other s1" || d.Ops() != ops+4 { // Remove, Remove, SyncDir, Sync
			t.Error(names(d), d.Ops()-ops)
		}
		does(t, s, "=c Ra3")
		tells(t, open(t, d, each), "{1 4 [{a 1 4 [] 2 0 1}]} 4 21: a b c")
	}
	d := disk.New(roomy) // and where there was no mark yet
	put(t, d, "ck~", "\x01\x01\x00")
	tells(t, open(t, d, each), "{1 1 []} 1 0:")
	if names(d) != "s1" {
		t.Error(names(d))
	}
}

// TestL1EachOperationOfOpenFails: two of Clean, Cut and Sync of the log, and two for each of two segments that go.
func TestL1EachOperationOfOpenFails(t *testing.T) {
	start := func() *disk.Disk {
		d := lay(t, ledgerOf(3, 3, owes("a", 1, 3)), []part{{1, "a"}, {2, "b"}, {3, "c"}})
		put(t, d, "ck~", "x")
		right(t, d.Append(segment.Name(3), "half of a frame"))
		for _, name := range d.List() {
			right(t, d.Sync(name))
		}
		right(t, d.SyncDir())
		return d
	}
	const want = "{3 4 [{a 1 3 [] 2 0 0}]} 4 7: c"
	for n := range 10 {
		d, twin := start(), start()
		d.Stop(n)
		twin.Stop(n)
		s, e := spool.Open(d, each)
		if _, hand := openByHand(twin, each); e != hand || (e == api.OK) != (n >= 8) || e != api.OK && e != api.ErrDead || (s == nil) != (e != api.OK) {
			t.Fatal(n, s, e, hand)
		}
		sameDisk(t, fmt.Sprint(n), d, twin)
		for _, k := range fronts(d) {
			tells(t, open(t, d.Crash(k), each), want)
		}
	}
	d := start()
	d.Fail(1)
	notOpened(t, d, each, api.ErrIO)
	tells(t, open(t, d, each), want)
}

func TestL1WhichErrorIsTold(t *testing.T) {
	d := disk.New(roomy)
	put(t, d, "ck", "none")
	d.Stop(0)
	notOpened(t, d, spool.Config{}, api.ErrArg)
	notOpened(t, d, each, api.ErrDead)
	d.Stop(1) // just for Clean: it can't be read then
	notOpened(t, d, each, api.ErrDead)
	d.Stop(-1)
	notOpened(t, d, each, api.ErrForm)
	if s, e := spool.Open(&disk.Disk{}, each); s != nil || e == api.OK {
		t.Error(s, e)
	}
	for _, c := range []spool.Config{{}, each} {
		if s, e := spool.Open(nil, c); s != nil || e == api.OK {
			t.Error(s, e)
		}
	}
}

// TestL1OpenEvictsNothing: also where there is more than the budget.
func TestL1OpenEvictsNothing(t *testing.T) {
	d := disk.New(roomy)
	does(t, open(t, d, spool.Config{Budget: 9000, Segment: 1}), "Ja =a*1500 =b*1500 =c*1500 =d*1500")
	was := "{1 5 [{a 1 1 [] 0 0 0}]} 5 6028: a*1500 b*1500 c*1500 d*1500"
	s := open(t, d, each)
	tells(t, s, was)
	does(t, s, "S M Aa2 C")
	tells(t, s, strings.Replace(was, "1 1 [] 0", "1 1 [2] 1", 1))
	does(t, s, "+e")
	tells(t, s, "{4 6 [{a 1 4 [] 1 2 0}]} 5 1514: d*1500 e")
}

func TestSeveralSpoolsAreApart(t *testing.T) {
	d, other := disk.New(roomy), disk.New(roomy)
	s, z := open(t, d, each), open(t, other, pairs)
	does(t, s, "Ja =a =b Aa2 Ra1")
	does(t, z, "+x Jb +y")
	tells(t, s, "{1 3 [{a 1 3 [] 1 0 1}]} 3 14: a b")
	tells(t, z, "{1 3 [{b 2 2 [] 0 0 0}]} 2 14: x y")
	if !slices.Equal(other.List(), []string{"ck", segment.Name(1)}) {
		t.Error(names(other))
	}
}
