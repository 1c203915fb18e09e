package segment_test

import (
	"fmt"
	"math"
	"strings"
	"testing"

	"postroom/api"
	"postroom/disk"
	"postroom/frame"
	"postroom/segment"
)

// none wants that nothing is told beside an error.
func none(t *testing.T, l *segment.Log, e, want api.Errno) {
	t.Helper()
	if l != nil || e != want {
		t.Fatalf("%v, %v, not %v", l, e, want)
	}
}

func TestI1Name(t *testing.T) {
	for first, want := range map[uint64]string{
		0:                    "s00000000000000000000",
		1:                    "s00000000000000000001",
		9:                    "s00000000000000000009",
		10:                   "s00000000000000000010",
		1234567890:           "s00000000001234567890",
		9999999999999999999:  "s09999999999999999999",
		10000000000000000000: "s10000000000000000000",
		math.MaxInt64:        "s09223372036854775807",
		math.MaxUint64 - 1:   "s18446744073709551614",
		math.MaxUint64:       "s18446744073709551615",
	} {
		if got := segment.Name(first); got != want {
			t.Errorf("%d: %s, not %s", first, got, want)
		}
	}
	if e := disk.New(0).Create(segment.Name(math.MaxUint64)); e != api.OK {
		t.Error(e)
	}
}

func TestI1OpenWithoutASegment(t *testing.T) {
	for _, room := range []int{0, 1, roomy} {
		d := disk.New(room)
		l := open(t, d)
		tells(t, l, "1+0(0); next 1, durable 1, bytes 0")
		if d.Ops() != 2 {
			t.Error(d.Ops())
		}
		for _, k := range fronts(d) { // its name will stay
			if got := files(d.Crash(k)); got != `s00000000000000000001="" ` {
				t.Fatal(k, got)
			}
		}
		tells(t, open(t, d), "1+0(0); next 1, durable 1, bytes 0")
		if d.Ops() != 3 { // it is there now: just a Sync
			t.Error(d.Ops())
		}
	}
}

// strange are names that are near to a segment's, but none.
var strange = []string{
	"s", "s7", "ck", "ss0000000000000000001", "t00000000000000000001", "S00000000000000000001",
	"00000000000000000001", "000000000000000000001", "s0000000000000000001", "s000000000000000000001", "s00000000000000000000001",
	"s18446744073709551616", "s20000000000000000000", "s99999999999999999999",
	"s+0000000000000000001", "s-0000000000000000001", "s.0000000000000000001", "s0_000000000000000001", "s0000000000000000000_",
	"s0000000000000000000a", "s0x000000000000000001", "s0b000000000000000001", "s0o000000000000000001", "s1e000000000000000000",
	"s0000000000000000001~", "s00000000000000000001~",
}

func TestI1OpenWithFilesOfOtherNames(t *testing.T) {
	for _, with := range []bool{false, true} {
		d := disk.New(roomy)
		for i, name := range strange {
			put(t, d, name, framed(uint64(i), "x")+"?")
		}
		others, ops, want := files(d), d.Ops(), "1+0(0); next 1, durable 1, bytes 0"
		if with {
			put(t, d, "s00000000000000000003", framed(3, "a", "b"))
			want = "3+2(14) a b; next 5, durable 5, bytes 14"
			ops += 1
		}
		l := open(t, d)
		tells(t, l, want)
		if d.Ops() != ops+2 {
			t.Error(d.Ops(), ops)
		}
		add(t, l, "c")
		right(t, l.Sync(), l.Roll())
		add(t, l, "d")
		right(t, l.Undo(), l.Drop())
		if e := l.Drop(); e != api.ErrState {
			t.Error(e)
		}
		for _, s := range l.Segs() {
			right(t, d.Remove(segment.Name(s.First)))
		}
		if got := files(d); got != others {
			t.Errorf("there is %s, not %s", got, others)
		}
	}
}

func TestI1OpenWithSegments(t *testing.T) {
	long := strings.Repeat("L", api.MaxBody)
	for _, c := range []struct {
		l    []part
		want string
	}{
		{[]part{{1, nil}}, "1+0(0); next 1, durable 1, bytes 0"},
		{[]part{{0, nil}}, "0+0(0); next 0, durable 0, bytes 0"},
		{[]part{{0, []string{"a"}}}, "0+1(7) a; next 1, durable 1, bytes 7"},
		{[]part{{7, nil}}, "7+0(0); next 7, durable 7, bytes 0"},
		{[]part{{7, []string{"a", "", "ccc"}}}, "7+3(22) a  ccc; next 10, durable 10, bytes 22"},
		{[]part{{127, []string{"a", "b"}}}, "127+2(15) a b; next 129, durable 129, bytes 15"},
		{[]part{{1, []string{"a"}}, {2, nil}}, "1+1(7) a; 2+0(0); next 2, durable 2, bytes 7"},
		{[]part{{9, []string{"a"}}, {10, []string{"b", "c"}}}, "9+1(7) a; 10+2(14) b c; next 12, durable 12, bytes 21"},
		{[]part{{99, []string{"a"}}, {100, []string{"b"}}, {101, []string{long}}}, "99+1(7) a; 100+1(7) b; 101+1(2007) " + long + "; next 102, durable 102, bytes 2021"},
		{[]part{{math.MaxUint64, nil}}, "18446744073709551615+0(0); next 18446744073709551615, durable 18446744073709551615, bytes 0"},
		{[]part{{math.MaxUint64 - 1, []string{"a"}}, {math.MaxUint64, nil}}, "18446744073709551614+1(16) a; 18446744073709551615+0(0); next 18446744073709551615, durable 18446744073709551615, bytes 16"},
	} {
		d := disk.New(roomy)
		for i := range c.l { // made in the other order, which does not matter
			p := c.l[len(c.l)-1-i]
			put(t, d, p.name(), p.all())
		}
		was, ops := files(d), d.Ops()
		l := open(t, d)
		tells(t, l, c.want)
		if d.Ops() != ops+1 || files(d) != was {
			t.Errorf("%d operations: %s, not %s", d.Ops()-ops, files(d), was)
		}
		last := c.l[len(c.l)-1]
		right(t, d.SyncDir())
		if got, e := d.Crash(disk.Keep{}).Read(last.name()); got != last.all() || e != api.OK { // it was synced
			t.Error(c.want, e, got)
		}
	}
}

func TestI1NumbersThatDoNotGoOn(t *testing.T) {
	a, b := framed(7, "a"), framed(8, "b")
	for text, want := range map[string]string{
		a + b + framed(10, "z"):                "7+2(14) a b; next 9, durable 9, bytes 14",
		a + framed(9, "z"):                     "7+1(7) a; next 8, durable 8, bytes 7",
		a + framed(9, "z") + b:                 "7+1(7) a; next 8, durable 8, bytes 7",
		a + a + b:                              "7+1(7) a; next 8, durable 8, bytes 7",
		a + b + a:                              "7+2(14) a b; next 9, durable 9, bytes 14",
		a + b + b:                              "7+2(14) a b; next 9, durable 9, bytes 14",
		framed(6, "z") + a + b:                 "7+0(0); next 7, durable 7, bytes 0",
		b:                                      "7+0(0); next 7, durable 7, bytes 0",
		b + a:                                  "7+0(0); next 7, durable 7, bytes 0",
		framed(0, "z"):                         "7+0(0); next 7, durable 7, bytes 0",
		a + framed(7+1<<32, "z"):               "7+1(7) a; next 8, durable 8, bytes 7",
		a + b + framed(9, "c", "d"):            "7+4(28) a b c d; next 11, durable 11, bytes 28",
		a + "?" + b:                            "7+1(7) a; next 8, durable 8, bytes 7",
		a + framed(8, "B")[:6] + "b" + b:       "7+1(7) a; next 8, durable 8, bytes 7",
		a + framed(math.MaxUint64, "z") + "??": "7+1(7) a; next 8, durable 8, bytes 7",
	} {
		d := disk.New(roomy)
		put(t, d, "s00000000000000000007", text)
		l := open(t, d)
		tells(t, l, want)
		if d.Used() != l.Bytes() {
			t.Errorf("%q: %d bytes are there", text, d.Used())
		}
		if _, e := l.Get(l.Next()); e != api.ErrNone {
			t.Errorf("%q: %v", text, e)
		}
		add(t, l, "new") // stands where the others were
		right(t, l.Sync())
		if body, e := open(t, d).Get(l.Next() - 1); body != "new" || e != api.OK {
			t.Errorf("%q: %q, %v", text, body, e)
		}
	}
}

func TestI1BytesBehindTheLastSegment(t *testing.T) {
	whole, more := framed(7, "a", "b"), framed(9, "ccc")
	for n := range len(more) + 1 {
		d := disk.New(roomy)
		put(t, d, "s00000000000000000006", framed(6, "z"))
		put(t, d, "s00000000000000000007", whole+more[:n])
		right(t, d.Sync("s00000000000000000006"), d.SyncDir())
		ops, cut, want := d.Ops(), 1, "6+1(7) z; 7+2(14) a b; next 9, durable 9, bytes 21"
		if n == 0 {
			cut = 0
		}
		if n == len(more) {
			cut, want = 0, "6+1(7) z; 7+3(23) a b ccc; next 10, durable 10, bytes 30"
		}
		l := open(t, d)
		tells(t, l, want)
		if d.Ops() != ops+cut+1 || d.Used() != l.Bytes() {
			t.Fatal(n, d.Ops()-ops, d.Used())
		}
		for _, k := range fronts(d) { // synced, cut or not
			if got := files(d.Crash(k)); got != files(d) {
				t.Fatalf("%d, %v: %s, not %s", n, k, got, files(d))
			}
		}
	}
}

func TestI1ErrForm(t *testing.T) {
	for i, l := range [][]part{
		{{7, []string{"a"}}, {9, []string{"c"}}},                       // a gap
		{{7, []string{"a", "b"}}, {8, []string{"b"}}},                  // one twice
		{{7, nil}, {8, []string{"b"}}},                                 // an empty one that is not the last
		{{7, []string{"a"}}, {8, nil}, {9, []string{"c"}}},             // and in the midst
		{{7, []string{"a"}}, {8, []string{"b"}}, {10, nil}},            // a gap behind
		{{1, []string{"a"}}, {7, []string{"g"}}, {8, []string{"h"}}},   // and ahead
		{{0, nil}, {1, []string{"a"}}},                                 // from 0 on
		{{0, []string{"z"}}, {math.MaxUint64, []string{"a"}}},          // numbers go round, but segments are by First
		{{1, nil}, {math.MaxUint64, nil}},                              //
		{{7, []string{"a"}}, {7 + 1<<32, []string{"z"}}},               //
		{{7, []string{"a", "b", "c"}}, {9, []string{"c"}}, {10, nil}},  //
		{{7, []string{"a"}}, {8, []string{"b"}}, {9, nil}, {10, nil}},  //
		{{7, []string{"a"}}, {8, []string{"b", "c"}}, {9, []string{}}}, //
	} {
		d := disk.New(roomy)
		for _, p := range l {
			put(t, d, p.name(), p.all())
		}
		refused(t, fmt.Sprint(i), d)
	}
	more := framed(8, "b")
	for n := 1; n < len(more); n++ { // bytes behind one that is not the last
		for _, last := range []string{"", framed(8, "b"), framed(8, "b") + "?"} {
			d := disk.New(roomy)
			put(t, d, "s00000000000000000007", framed(7, "a")+more[:n])
			put(t, d, "s00000000000000000008", last)
			refused(t, fmt.Sprint("cut off at ", n, last), d)
		}
	}
	for _, text := range []string{framed(7, "a") + framed(9, "x"), framed(7, "a") + framed(7, "a"), framed(6, "x") + framed(7, "a"), "?", framed(7, "a") + framed(8, "b") + "?"} {
		d := disk.New(roomy)
		put(t, d, "s00000000000000000007", text)
		put(t, d, "s00000000000000000008", framed(8, "b"))
		put(t, d, "s00000000000000000009", "")
		refused(t, fmt.Sprintf("%q", text), d)
	}
}

// refused wants ErrForm of a disk, and that nothing was done; without power it is not even read.
func refused(t *testing.T, what string, d *disk.Disk) {
	t.Helper()
	was, ops := files(d), d.Ops()
	for range 2 {
		if l, e := segment.Open(d); l != nil || e != api.ErrForm || d.Ops() != ops || files(d) != was {
			t.Fatalf("%s: %v, %v, %d operations, %s", what, l, e, d.Ops()-ops, files(d))
		}
	}
	d.Stop(0)
	if l, e := segment.Open(d); l != nil || e != api.ErrDead {
		t.Fatalf("%s: %v, %v", what, l, e)
	}
}

func TestI1ErrorsOfOperations(t *testing.T) {
	empty := func() *disk.Disk { return disk.New(roomy) }
	with := func(behind string) func() *disk.Disk {
		return func() *disk.Disk {
			d := disk.New(roomy)
			put(t, d, "s00000000000000000007", framed(7, "a"))
			put(t, d, "s00000000000000000008", framed(8, "b")+behind)
			return d
		}
	}
	for what, c := range map[string]struct {
		start func() *disk.Disk
		ops   int // that an Open does
	}{"nothing": {empty, 2}, "segments": {with(""), 1}, "segments, and bytes behind": {with("?"), 2}} {
		for n := range 4 { // Create or a Read, SyncDir, Cut, Sync
			d, twin := c.start(), c.start()
			ops := d.Ops()
			d.Stop(n)
			twin.Stop(n)
			l, e := segment.Open(d)
			if _, want := openByHand(twin); e != want || (l == nil) != (e != api.OK) || (e == api.OK) != (n >= c.ops) {
				t.Fatalf("%s, power for %d operations: %v, %v", what, n, l, e)
			}
			if d.Ops() != ops+min(n, c.ops) {
				t.Fatalf("%s, power for %d operations: %d were done", what, n, d.Ops()-ops)
			}
			sameDisk(t, d, twin, fronts(twin))
		}
	}
	for _, behind := range []string{"", "?"} {
		d := with(behind)()
		d.Fail(1)
		l, e := segment.Open(d)
		none(t, l, e, api.ErrIO)
		tells(t, open(t, d), "7+1(7) a; 8+1(7) b; next 9, durable 9, bytes 14")
	}
	d := empty()
	d.Fail(1) // of no operation of this Open
	tells(t, open(t, d), "1+0(0); next 1, durable 1, bytes 0")
	l, e := segment.Open(nil)
	none(t, l, e, api.ErrDead)
	l, e = segment.Open(&disk.Disk{})
	none(t, l, e, api.ErrDead)
}

func TestI2Append(t *testing.T) {
	d := disk.New(roomy)
	l := open(t, d)
	long := strings.Repeat("x", api.MaxBody)
	for i, body := range []string{"a", "", "\x00\xff", framed(3, "like a frame"), long, long[1:], "b"} {
		ops, used := d.Ops(), d.Used()
		if seq, e := l.Append(body); seq != uint64(i+1) || e != api.OK || l.Next() != seq+1 || l.Durable() != 1 {
			t.Fatal(i, seq, e, l.Next(), l.Durable())
		}
		s, _ := frame.Put(uint64(i+1), body)
		if got, _ := d.Read("s00000000000000000001"); !strings.HasSuffix(got, s) || d.Ops() != ops+1 || d.Used() != used+len(s) || l.Bytes() != d.Used() {
			t.Fatalf("%d: %q, %d operations", i, got, d.Ops()-ops)
		}
	}
	for _, body := range []string{long + "x", strings.Repeat("x", 1<<16)} {
		was, ops := said(l), d.Ops()
		d.Fail(1)
		for range 3 {
			if seq, e := l.Append(body); seq != 0 || e != api.ErrLong {
				t.Fatal(seq, e)
			}
		}
		if said(l) != was || d.Ops() != ops {
			t.Fatal(said(l), was)
		}
		if seq, e := l.Append("c"); seq != 0 || e != api.ErrIO { // which ErrLong did not take
			t.Fatal(seq, e)
		}
		d.Stop(0)
		if seq, e := l.Append(body); seq != 0 || e != api.ErrLong { // ahead of all that a disk tells
			t.Fatal(seq, e)
		}
		d.Stop(-1)
		tells(t, l, was)
	}
	for i, body := range []string{"a", "", "\x00\xff", framed(3, "like a frame"), long, long[1:], "b"} {
		if got, e := open(t, d).Get(uint64(i + 1)); got != body || e != api.OK {
			t.Fatal(i, got, e)
		}
	}
}

func TestI2AppendThatFails(t *testing.T) {
	d := disk.New(21)
	l := open(t, d)
	add(t, l, "a", "b")
	right(t, l.Sync())
	fails := func(body string, want api.Errno) {
		t.Helper()
		was, files0, ops := said(l), files(d), d.Ops()
		if seq, e := l.Append(body); seq != 0 || e != want || d.Ops() != ops+1 {
			t.Fatal(seq, e, d.Ops()-ops)
		}
		tells(t, l, was)
		if files(d) != files0 {
			t.Fatal(files(d), files0)
		}
	}
	fails("12", api.ErrFull)
	fails(strings.Repeat("x", 2000), api.ErrFull)
	d.Fail(1)
	fails("c", api.ErrIO)
	add(t, l, "c") // just what there is room for
	fails("", api.ErrFull)
	tells(t, l, "1+3(21) a b c; next 4, durable 3, bytes 21")
	right(t, l.Undo())
	add(t, l, "C")
	tells(t, open(t, d), "1+3(21) a b C; next 4, durable 4, bytes 21")
	right(t, d.Rename("s00000000000000000001", "away"))
	was := l.Segs()
	if seq, e := l.Append(""); seq != 0 || e != api.ErrNone {
		t.Error(seq, e)
	}
	right(t, d.Rename("away", "s00000000000000000001"))
	if fmt.Sprint(l.Segs()) != fmt.Sprint(was) {
		t.Error(l.Segs(), was)
	}
	d.Stop(0)
	if seq, e := l.Append("a"); seq != 0 || e != api.ErrDead {
		t.Error(seq, e)
	}
}

func TestI2SyncAndUndoWhereAllIsDurable(t *testing.T) {
	d := disk.New(roomy)
	l := open(t, d)
	nothing := func(want string) {
		t.Helper()
		ops := d.Ops()
		d.Fail(1)
		right(t, l.Sync(), l.Undo(), l.Sync(), l.Undo())
		d.Stop(0) // nothing needs no power
		right(t, l.Sync(), l.Undo())
		d.Stop(-1)
		d.Fail(0)
		tells(t, l, want)
		if d.Ops() != ops {
			t.Fatal(d.Ops() - ops)
		}
	}
	nothing("1+0(0); next 1, durable 1, bytes 0")
	add(t, l, "a")
	right(t, l.Sync())
	nothing("1+1(7) a; next 2, durable 2, bytes 7")
	add(t, l, "b")
	right(t, l.Undo())
	nothing("1+1(7) a; next 2, durable 2, bytes 7")
	right(t, l.Roll())
	nothing("1+1(7) a; 2+0(0); next 2, durable 2, bytes 7")
	add(t, l, "b", "c")
	right(t, l.Undo())
	nothing("1+1(7) a; 2+0(0); next 2, durable 2, bytes 7")
	right(t, l.Drop())
	nothing("2+0(0); next 2, durable 2, bytes 0")
	l = open(t, d)
	nothing("2+0(0); next 2, durable 2, bytes 0")
}

func TestI2Sync(t *testing.T) {
	d := disk.New(roomy)
	l := open(t, d)
	for _, want := range []string{
		"1+2(14) a b; next 3, durable 3, bytes 14",
		"1+4(28) a b a b; next 5, durable 5, bytes 28",
		"1+6(42) a b a b a b; next 7, durable 7, bytes 42",
	} {
		add(t, l, "a", "b")
		if l.Durable() != l.Next()-2 {
			t.Fatal(l.Durable())
		}
		ops := d.Ops()
		right(t, l.Sync())
		tells(t, l, want)
		if d.Ops() != ops+1 {
			t.Fatal(d.Ops() - ops)
		}
		tells(t, open(t, d.Crash(disk.Keep{})), want)
	}
	add(t, l, "c")
	was := said(l)
	d.Fail(1)
	if e := l.Sync(); e != api.ErrIO {
		t.Error(e)
	}
	tells(t, l, was)
	if got := said(open(t, d.Crash(disk.Keep{}))); got != "1+6(42) a b a b a b; next 7, durable 7, bytes 42" {
		t.Error(got)
	}
	right(t, d.Rename("s00000000000000000001", "away"))
	if e := l.Sync(); e != api.ErrNone {
		t.Error(e)
	}
	right(t, d.Rename("away", "s00000000000000000001"))
	tells(t, l, was)
	d.Stop(0)
	if e := l.Sync(); e != api.ErrDead {
		t.Error(e)
	}
	d.Stop(-1)
	right(t, l.Sync())
	tells(t, l, "1+7(49) a b a b a b c; next 8, durable 8, bytes 49")
}

func TestI2Undo(t *testing.T) {
	d := disk.New(roomy)
	l := open(t, d)
	add(t, l, "gone", "")
	right(t, l.Undo()) // all of them
	tells(t, l, "1+0(0); next 1, durable 1, bytes 0")
	add(t, l, "a", "bb")
	right(t, l.Sync())
	for _, body := range []string{"c", "ccc", ""} {
		add(t, l, body, "x")
		ops := d.Ops()
		right(t, l.Undo())
		tells(t, l, "1+2(15) a bb; next 3, durable 3, bytes 15")
		if d.Ops() != ops+1 || d.Used() != 15 {
			t.Fatal(d.Ops()-ops, d.Used())
		}
	}
	right(t, l.Roll())
	add(t, l, "c")
	right(t, l.Undo()) // just of the active one
	tells(t, l, "1+2(15) a bb; 3+0(0); next 3, durable 3, bytes 15")
	add(t, l, "d")
	right(t, l.Sync())
	add(t, l, "e", "f")
	was := said(l)
	right(t, d.Rename("s00000000000000000003", "away"))
	if e := l.Undo(); e != api.ErrNone {
		t.Error(e)
	}
	put(t, d, "s00000000000000000003", "short")
	if e := l.Undo(); e != api.ErrArg {
		t.Error(e)
	}
	right(t, d.Rename("away", "s00000000000000000003"))
	tells(t, l, was)
	d.Stop(0)
	if e := l.Undo(); e != api.ErrDead {
		t.Error(e)
	}
	d.Stop(-1)
	right(t, l.Undo())
	tells(t, l, "1+2(15) a bb; 3+1(7) d; next 4, durable 4, bytes 22")
	add(t, l, "E")
	tells(t, open(t, d), "1+2(15) a bb; 3+2(14) d E; next 5, durable 5, bytes 29")
}

func TestI2UndoBehindASyncThatFailed(t *testing.T) {
	d := disk.New(roomy)
	l := open(t, d)
	add(t, l, "a")
	right(t, l.Sync())
	add(t, l, "b")
	d.Fail(1)
	if e := l.Sync(); e != api.ErrIO {
		t.Fatal(e)
	}
	right(t, l.Undo())
	tells(t, l, "1+1(7) a; next 2, durable 2, bytes 7")
	add(t, l, "B")
	right(t, l.Sync())
	tells(t, open(t, d.Crash(disk.Keep{})), "1+2(14) a B; next 3, durable 3, bytes 14")
}

func TestI3RollWithoutABody(t *testing.T) {
	d := disk.New(roomy)
	l := open(t, d)
	nothing := func(want string) {
		t.Helper()
		ops := d.Ops()
		d.Fail(1)
		right(t, l.Roll(), l.Roll())
		d.Stop(0)
		right(t, l.Roll())
		d.Stop(-1)
		d.Fail(0)
		tells(t, l, want)
		if d.Ops() != ops {
			t.Fatal(d.Ops() - ops)
		}
	}
	nothing("1+0(0); next 1, durable 1, bytes 0")
	add(t, l, "a")
	right(t, l.Undo())
	nothing("1+0(0); next 1, durable 1, bytes 0")
	add(t, l, "a")
	right(t, l.Roll())
	nothing("1+1(7) a; 2+0(0); next 2, durable 2, bytes 7")
	right(t, l.Drop())
	nothing("2+0(0); next 2, durable 2, bytes 0")
	l = open(t, d)
	nothing("2+0(0); next 2, durable 2, bytes 0")
}

func TestI3Roll(t *testing.T) {
	for _, how := range []struct {
		what string
		end  func(l *segment.Log) api.Errno
		want string
	}{
		{"not synced", func(l *segment.Log) api.Errno { return api.OK }, "1+2(14) a b; 3+0(0); next 3, durable 3, bytes 14"},
		{"synced", (*segment.Log).Sync, "1+2(14) a b; 3+0(0); next 3, durable 3, bytes 14"},
		{"undone", (*segment.Log).Undo, "1+1(7) a; 2+0(0); next 2, durable 2, bytes 7"},
	} {
		d := disk.New(roomy)
		l := open(t, d)
		add(t, l, "a")
		right(t, l.Sync())
		add(t, l, "b")
		right(t, how.end(l))
		ops := d.Ops()
		right(t, l.Roll())
		tells(t, l, how.want)
		if d.Ops() != ops+3 {
			t.Fatal(how.what, d.Ops()-ops)
		}
		for _, k := range fronts(d) { // all of it was synced, and its name too
			tells(t, open(t, d.Crash(k)), how.want)
		}
		add(t, l, "c")
		if s := l.Segs(); s[0].Many+s[1].Many != int(l.Next()-1) || s[1].Many != 1 || l.Durable() != l.Next()-1 {
			t.Fatal(how.what, s)
		}
	}
}

// rolled is a log that Roll has three operations for, of which just a is durable.
func rolled(t *testing.T) (*disk.Disk, *segment.Log) {
	t.Helper()
	d := disk.New(roomy)
	l := open(t, d)
	add(t, l, "a")
	right(t, l.Sync())
	add(t, l, "b")
	return d, l
}

func TestI3RollThatFails(t *testing.T) {
	const was = "1+2(14) a b; next 3, durable 2, bytes 14"
	d, l := rolled(t)
	d.Fail(1)
	ops := d.Ops()
	if e := l.Roll(); e != api.ErrIO || d.Ops() != ops+1 {
		t.Error(e, d.Ops()-ops)
	}
	tells(t, l, was)
	if got := files(d.Crash(disk.Keep{})); got != files(d.Crash(disk.Keep{Dir: 9})) {
		t.Error(got)
	}
	right(t, d.Rename("s00000000000000000001", "away"))
	ops = d.Ops()
	if e := l.Roll(); e != api.ErrNone || d.Ops() != ops+1 {
		t.Error(e, d.Ops()-ops)
	}
	right(t, d.Rename("away", "s00000000000000000001"))
	tells(t, l, was)

	put(t, d, "s00000000000000000003", "in the way")
	ops = d.Ops()
	if e := l.Roll(); e != api.ErrThere || d.Ops() != ops+2 {
		t.Error(e, d.Ops()-ops)
	}
	tells(t, l, was)
	if got, _ := d.Read("s00000000000000000003"); got != "in the way" {
		t.Error(got)
	}
	right(t, d.Remove("s00000000000000000003"), l.Roll())
	tells(t, l, "1+2(14) a b; 3+0(0); next 3, durable 3, bytes 14")

	for n := range 5 {
		d, l := rolled(t)
		twin, _ := rolled(t)
		b := &book{d: twin, segs: []part{{1, []string{"a", "b"}}}, durable: 2}
		d.Stop(n)
		twin.Stop(n)
		e, want := l.Roll(), b.roll()
		if e != want || (e == api.OK) != (n >= 3) || e != api.OK && e != api.ErrDead {
			t.Fatal(n, e, want)
		}
		sameDisk(t, d, twin, fronts(d))
	}
}

func TestI3Drop(t *testing.T) {
	d := disk.New(roomy)
	l := open(t, d)
	alone := func(want string) {
		t.Helper()
		ops := d.Ops()
		if e := l.Drop(); e != api.ErrState {
			t.Fatal(e)
		}
		d.Stop(0)
		if e := l.Drop(); e != api.ErrState { // ahead of all that a disk tells
			t.Fatal(e)
		}
		d.Stop(-1)
		tells(t, l, want)
		if d.Ops() != ops {
			t.Fatal(d.Ops() - ops)
		}
	}
	alone("1+0(0); next 1, durable 1, bytes 0")
	add(t, l, "a", "b")
	alone("1+2(14) a b; next 3, durable 1, bytes 14")
	right(t, l.Sync())
	alone("1+2(14) a b; next 3, durable 3, bytes 14")
	right(t, l.Roll())
	add(t, l, "c")
	right(t, l.Roll())
	add(t, l, "d", "e")
	for _, want := range []string{
		"3+1(7) c; 4+2(14) d e; next 6, durable 4, bytes 21",
		"4+2(14) d e; next 6, durable 4, bytes 14",
	} {
		gone, ops := l.Segs()[0].First, d.Ops()
		right(t, l.Drop())
		tells(t, l, want)
		if _, e := d.Read(segment.Name(gone)); e != api.ErrNone || d.Ops() != ops+2 || d.Used() != l.Bytes() {
			t.Fatal(e, d.Ops()-ops, d.Used())
		}
		for _, k := range fronts(d) { // its name is gone for ever
			if _, e := d.Crash(k).Read(segment.Name(gone)); e != api.ErrNone {
				t.Fatal(k, e)
			}
		}
	}
	alone("4+2(14) d e; next 6, durable 4, bytes 14")
	right(t, l.Undo())
	alone("4+0(0); next 4, durable 4, bytes 0")
}

func TestI3DropThatFails(t *testing.T) {
	start := func() (*disk.Disk, *segment.Log) {
		d := disk.New(roomy)
		l := open(t, d)
		add(t, l, "a")
		right(t, l.Roll())
		add(t, l, "b")
		return d, l
	}
	d, l := start()
	right(t, d.Rename("s00000000000000000001", "away"))
	ops := d.Ops()
	if e := l.Drop(); e != api.ErrNone || d.Ops() != ops+1 {
		t.Error(e, d.Ops()-ops)
	}
	right(t, d.Rename("away", "s00000000000000000001"))
	tells(t, l, "1+1(7) a; 2+1(7) b; next 3, durable 2, bytes 14")
	for n := range 4 {
		d, l := start()
		twin, _ := start()
		d.Stop(n)
		twin.Stop(n)
		e, want := l.Drop(), steps(func() api.Errno { return twin.Remove("s00000000000000000001") }, twin.SyncDir)
		if e != want || (e == api.OK) != (n >= 2) || e != api.OK && e != api.ErrDead {
			t.Fatal(n, e, want)
		}
		sameDisk(t, d, twin, fronts(d))
	}
}

// gets wants these bodies, from first on, and none beside them.
func gets(t *testing.T, l *segment.Log, first uint64, bodies ...string) {
	t.Helper()
	for i, want := range bodies {
		for range 2 {
			if got, e := l.Get(first + uint64(i)); got != want || e != api.OK {
				t.Fatalf("%d: %q, %v, not %q", first+uint64(i), got, e, want)
			}
		}
	}
	next := first + uint64(len(bodies))
	for _, seq := range []uint64{0, 1, first - 1, next, next + 1, next + 1000, 1 << 32, math.MaxInt64, 1 << 63, math.MaxUint64} {
		if seq >= first && seq < next {
			continue
		}
		if got, e := l.Get(seq); got != "" || e != api.ErrNone {
			t.Fatalf("%d: %q, %v", seq, got, e)
		}
	}
}

func TestI4Get(t *testing.T) {
	d := disk.New(roomy)
	l := open(t, d)
	gets(t, l, 1)
	add(t, l, "a")
	gets(t, l, 1, "a")
	right(t, l.Sync())
	add(t, l, "", "c")
	gets(t, l, 1, "a", "", "c") // durable or not
	right(t, l.Undo())
	gets(t, l, 1, "a")
	add(t, l, "B")
	gets(t, l, 1, "a", "B")
	right(t, l.Roll())
	gets(t, l, 1, "a", "B")
	add(t, l, "C", "D")
	right(t, l.Roll())
	add(t, l, "E")
	gets(t, l, 1, "a", "B", "C", "D", "E")
	ops := d.Ops()
	gets(t, l, 1, "a", "B", "C", "D", "E")
	if d.Ops() != ops { // a Read is none
		t.Error(d.Ops() - ops)
	}
	right(t, l.Drop())
	gets(t, l, 3, "C", "D", "E")
	right(t, l.Undo())
	gets(t, l, 3, "C", "D")
	right(t, l.Drop())
	gets(t, l, 5)
	add(t, l, "e")
	gets(t, l, 5, "e")
	gets(t, open(t, d), 5, "e")
}

func TestI4GetErrors(t *testing.T) {
	d := disk.New(roomy)
	l := open(t, d)
	add(t, l, "a")
	right(t, l.Roll())
	add(t, l, "b")
	for _, c := range []struct {
		do, undo func() api.Errno
		seq      uint64
		want     api.Errno
	}{
		{func() api.Errno { return d.Rename("s00000000000000000001", "away") }, func() api.Errno { return d.Rename("away", "s00000000000000000001") }, 1, api.ErrNone},
		{func() api.Errno { return d.Rename("s00000000000000000002", "away") }, func() api.Errno { return d.Rename("away", "s00000000000000000002") }, 2, api.ErrNone},
		{func() api.Errno { d.Stop(0); return api.OK }, func() api.Errno { d.Stop(-1); return api.OK }, 1, api.ErrDead},
		{func() api.Errno { d.Stop(0); return api.OK }, func() api.Errno { d.Stop(-1); return api.OK }, 2, api.ErrDead},
		{func() api.Errno { d.Stop(0); return api.OK }, func() api.Errno { d.Stop(-1); return api.OK }, 0, api.ErrNone}, // ahead of a Read
		{func() api.Errno { d.Stop(0); return api.OK }, func() api.Errno { d.Stop(-1); return api.OK }, 3, api.ErrNone},
	} {
		right(t, c.do())
		if got, e := l.Get(c.seq); got != "" || e != c.want {
			t.Errorf("%d: %q, %v, not %v", c.seq, got, e, c.want)
		}
		right(t, c.undo())
		gets(t, l, 1, "a", "b")
	}
	right(t, d.Cut("s00000000000000000001", 0)) // somebody else's doing: some answer comes
	if got, e := l.Get(1); got != "" || e == api.OK {
		t.Error(got, e)
	}
}

func TestI4SegsAreNew(t *testing.T) {
	d := disk.New(roomy)
	l := open(t, d)
	add(t, l, "a")
	right(t, l.Roll())
	add(t, l, "b")
	was := said(l)
	s := l.Segs()
	for i := range s {
		s[i] = segment.Seg{First: 77, Many: 7, Size: -1}
	}
	_ = append(s[:0], segment.Seg{First: 5})
	tells(t, l, was)
	s = l.Segs()
	add(t, l, "c")
	right(t, l.Drop())
	if fmt.Sprint(s) != "[{1 1 7} {2 1 7}]" {
		t.Error(s)
	}
}

func TestSeveralLogsAreApart(t *testing.T) {
	d, other := disk.New(roomy), disk.New(roomy)
	l, m := open(t, d), open(t, other)
	add(t, l, "a", "b")
	add(t, m, "x")
	right(t, m.Roll())
	tells(t, l, "1+2(14) a b; next 3, durable 1, bytes 14")
	tells(t, m, "1+1(7) x; 2+0(0); next 2, durable 2, bytes 7")
}

// TestNumbersGoRound: the greatest number is one as others are; behind it comes 0, below which nothing is.
func TestNumbersGoRound(t *testing.T) {
	d := disk.New(roomy)
	put(t, d, segment.Name(math.MaxUint64-1), framed(math.MaxUint64-1, "a"))
	l := open(t, d)
	gets(t, l, math.MaxUint64-1, "a")
	if seq, e := l.Append("b"); seq != math.MaxUint64 || e != api.OK || l.Next() != 0 || l.Durable() != math.MaxUint64 {
		t.Error(seq, e, l.Next(), l.Durable())
	}
	if got, e := l.Get(math.MaxUint64); got != "" || e != api.ErrNone {
		t.Error(got, e)
	}
	right(t, l.Undo())
	gets(t, l, math.MaxUint64-1, "a")
	add(t, l, "B", "c")
	right(t, l.Sync())
	if l.Next() != 1 || l.Durable() != 1 || fmt.Sprint(l.Segs()) != "[{18446744073709551614 3 39}]" {
		t.Error(l.Next(), l.Durable(), l.Segs())
	}
	if m := open(t, d); m.Next() != 1 || m.Segs()[0].Many != 3 {
		t.Error(m.Next(), m.Segs())
	}
	right(t, l.Roll(), l.Drop())
	tells(t, l, "1+0(0); next 1, durable 1, bytes 0")
}
