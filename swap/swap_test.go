package swap_test

import (
	"fmt"
	"math"
	"strings"
	"testing"

	"postroom/api"
	"postroom/disk"
	"postroom/swap"
)

const roomy = 1 << 20

// starts are disks with and without the file ck, and with and without its other, by what they are.
func starts(t *testing.T, room int) map[string]func() *disk.Disk {
	with := func(fill func(*disk.Disk)) func() *disk.Disk {
		return func() *disk.Disk {
			d := disk.New(room)
			fill(d)
			return d
		}
	}
	return map[string]func() *disk.Disk{
		"nothing":             with(func(d *disk.Disk) {}),
		"the file":            with(func(d *disk.Disk) { put(t, d, "ck", "old", true) }),
		"the file, unsynced":  with(func(d *disk.Disk) { put(t, d, "ck", "old", false) }),
		"its other":           with(func(d *disk.Disk) { put(t, d, "ck~", "bad", true) }),
		"its other, unsynced": with(func(d *disk.Disk) { put(t, d, "ck~", "bad", false) }),
		"both": with(func(d *disk.Disk) {
			put(t, d, "ck", "old", true)
			put(t, d, "ck~", "bad", true)
		}),
		"both, its other unsynced": with(func(d *disk.Disk) {
			put(t, d, "ck", "old", true)
			put(t, d, "ck~", "bad", false)
		}),
		"names beside it": with(func(d *disk.Disk) {
			put(t, d, "ck~~", "x", true)
			put(t, d, "c", "y", false)
			put(t, d, "ckk~", "", true)
		}),
	}
}

// keepsBehind are all fronts of what there may be, when one of these disks was given a file of that text.
func keepsBehind(start *disk.Disk, text string) []disk.Keep {
	var moments []int
	for range start.List() {
		moments = append(moments, 3)
	}
	return keeps(6, append(moments, len(text))...)
}

func TestH1Names(t *testing.T) {
	refused := func(name string, want bool) {
		t.Helper()
		d := disk.New(roomy)
		put(t, d, "a", "1", false)
		put(t, d, "~", "2", false)
		ops, was := d.Ops(), said(d)
		e := swap.Write(d, name, "x")
		if (e == api.ErrName) != want || !want && e != api.OK {
			t.Fatalf("%q: %v", name, e)
		}
		if want && (d.Ops() != ops || said(d) != was) {
			t.Fatalf("%q is refused, but %d operations were done, and there is %q", name, d.Ops()-ops, said(d))
		}
		if got, f := d.Read(name); !want && (got != "x" || f != api.OK || d.Ops() != ops+6) {
			t.Fatalf("%q: %q, %v, %d operations", name, got, f, d.Ops()-ops)
		}
	}
	for size := range 60 {
		refused(strings.Repeat("n", size), size < 1 || size > 23)
		refused(strings.Repeat("~", size)+"n", size > 22)
		refused(strings.Repeat("~", size), true)
		refused(strings.Repeat("n", size)+"~", true)
	}
	for b := range 256 {
		c := string([]byte{byte(b)})
		outside := b < 33 || b > 126
		for _, name := range []string{c + "n", "n" + c + "n", c + strings.Repeat("n", 22), strings.Repeat("n", 21) + c + "n"} {
			refused(name, outside)
		}
		for _, name := range []string{c, "n" + c, strings.Repeat("n", 22) + c, "~" + c} {
			refused(name, outside || c == "~")
		}
		refused(strings.Repeat("n", 23)+c, true)
	}
	for _, name := range []string{"", "é", "né", "a b", "a\n", "\x00", "a\x7f", "a~~", "~~", strings.Repeat("é", 11), strings.Repeat("n", 1<<16)} {
		refused(name, true)
	}
	for _, name := range []string{"~n", "a~b", "~~~n", "/", "..", "!", "}", "ck", strings.Repeat("~", 22) + "n"} {
		refused(name, false)
	}
}

func TestH1ARefusedNameTakesNothingOfFailAndStop(t *testing.T) {
	d := disk.New(roomy)
	d.Fail(1)
	d.Stop(4)
	for _, name := range []string{"", "~", "ck~", "c k", strings.Repeat("n", 24)} {
		if e := swap.Write(d, name, "x"); e != api.ErrName {
			t.Errorf("%q: %v", name, e)
		}
	}
	if e := swap.Write(d, "ck", "x"); e != api.ErrIO || d.Ops() != 4 {
		t.Error(e, d.Ops())
	}
	if e := swap.Write(d, "ck~", "x"); e != api.ErrName { // ahead of all that a disk tells
		t.Error(e)
	}
	if e := swap.Write(d, "ck", "x"); e != api.ErrDead {
		t.Error(e)
	}
}

func TestH1OperationsInOrder(t *testing.T) {
	for what, start := range starts(t, roomy) {
		t.Run(what, func(t *testing.T) {
			for n := range 9 {
				got, want := start(), start()
				ops := got.Ops()
				got.Stop(n)
				e := swap.Write(got, "ck", "new")
				if (e == api.OK) != (n >= 6) || e != api.OK && e != api.ErrDead {
					t.Fatalf("power for %d operations: %v", n, e)
				}
				if got.Ops() != ops+min(n, 6) {
					t.Fatalf("power for %d operations: %d were done", n, got.Ops()-ops)
				}
				first(want, writeDeeds("ck", "new"), n)
				same(t, got, want, keepsBehind(start(), "new"))
			}
			d := start()
			ops := d.Ops()
			if e := swap.Write(d, "ck", "new"); e != api.OK || d.Ops() != ops+6 {
				t.Fatal(e, d.Ops()-ops)
			}
		})
	}
}

func TestH1TheFileIsTheText(t *testing.T) {
	all := make([]byte, 256)
	for i := range all {
		all[i] = byte(i)
	}
	d := disk.New(roomy)
	for i, s := range []string{"", "x", "", "xyz", "xy", "new", "new", string(all), "é\n\x00~", strings.Repeat("long", 1<<14), ""} {
		for _, name := range []string{"ck", "n", strings.Repeat("n", 23)} {
			ops := d.Ops()
			if e := swap.Write(d, name, s); e != api.OK || d.Ops() != ops+6 {
				t.Fatal(i, name, e, d.Ops()-ops)
			}
			if got, e := d.Read(name); got != s || e != api.OK {
				t.Fatalf("%d, %s: %.50q, %v", i, name, got, e)
			}
		}
		if fmt.Sprint(d.List()) != "[ck n "+strings.Repeat("n", 23)+"]" || d.Used() != 3*len(s) {
			t.Fatal(i, d.List(), d.Used())
		}
	}
}

func TestH1Room(t *testing.T) {
	for _, c := range []struct {
		room           int
		file, other, s string
		want           api.Errno
		ops            int
		is             string
	}{
		{room: 6, file: "old", s: "new", ops: 6, is: "ck=new "},
		{room: 6, file: "old", s: "news", want: api.ErrFull, ops: 4, is: "ck=old "}, // both are there at once
		{room: 5, file: "old", s: "new", want: api.ErrFull, ops: 4, is: "ck=old "},
		{room: 6, file: "old", other: "bad", s: "new", ops: 6, is: "ck=new "}, // the other's room is given back ahead
		{room: 6, file: "old", other: "bad", s: "news", want: api.ErrFull, ops: 4, is: "ck=old "},
		{room: 3, file: "old", s: "", ops: 6, is: "ck= "},
		{room: 3, file: "old", s: "x", want: api.ErrFull, ops: 4, is: "ck=old "},
		{room: 0, s: "", ops: 6, is: "ck= "},
		{room: 0, s: "x", want: api.ErrFull, ops: 4},
		{room: -5, s: "x", want: api.ErrFull, ops: 4},
		{room: math.MinInt, s: "", ops: 6, is: "ck= "},
		{room: 3, other: "bad", s: "new", ops: 6, is: "ck=new "},
		{room: 3, other: "bad", s: "news", want: api.ErrFull, ops: 4},
		{room: 10, s: strings.Repeat("x", 1<<16), want: api.ErrFull, ops: 4},
	} {
		d := disk.New(c.room)
		if c.file != "" {
			put(t, d, "ck", c.file, true)
		}
		if c.other != "" {
			put(t, d, "ck~", c.other, true)
		}
		ops := d.Ops()
		if e := swap.Write(d, "ck", c.s); e != c.want || d.Ops() != ops+c.ops {
			t.Errorf("%+v: %v, %d operations", c, e, d.Ops()-ops)
		}
		has(t, d, c.is)
	}
}

// A fault is how an operation errs, and what is told and done then.
type fault struct {
	what       string
	room, fail int
	at         int // the operation that errs, from 1 on
	tells      api.Errno
}

var faults = []fault{
	{what: "no room", room: 8, at: 3, tells: api.ErrFull},
	{what: "Fail at the Append", room: roomy, fail: 1, at: 3, tells: api.ErrIO},
	{what: "Fail at the Sync", room: roomy, fail: 2, at: 4, tells: api.ErrIO},
}

func TestH1WhatErrsIsTheLastOneButForARemove(t *testing.T) {
	for _, f := range faults {
		for what, start := range starts(t, f.room) {
			t.Run(f.what+", "+what, func(t *testing.T) {
				got, want := start(), start()
				ops := got.Ops()
				got.Fail(f.fail)
				want.Fail(f.fail)
				text := "123456789"
				if e := swap.Write(got, "ck", text); e != f.tells {
					t.Fatal(e)
				}
				if got.Ops() != ops+f.at+1 {
					t.Fatalf("%d operations", got.Ops()-ops)
				}
				first(want, writeDeeds("ck", text), f.at)
				right(t, want.Remove("ck~"))
				same(t, got, want, keepsBehind(start(), text))
				if strings.Contains(" "+said(got), " ck~=") {
					t.Fatal(said(got))
				}
				right(t, swap.Write(got, "ck", "new")) // what failed once leaves nothing in the way
			})
		}
	}
}

func TestH1ThePowerGoesWhereItErrs(t *testing.T) {
	for _, f := range faults {
		for what, start := range starts(t, f.room) {
			t.Run(f.what+", "+what, func(t *testing.T) {
				text := "123456789"
				for n := range f.at + 3 {
					got, want := start(), start()
					ops := got.Ops()
					got.Fail(f.fail)
					want.Fail(f.fail)
					got.Stop(n)
					tells := f.tells
					if n < f.at { // it was not reached
						tells = api.ErrDead
					}
					if e := swap.Write(got, "ck", text); e != tells {
						t.Fatalf("power for %d operations: %v", n, e)
					}
					if got.Ops() != ops+min(n, f.at+1) {
						t.Fatalf("power for %d operations: %d were done", n, got.Ops()-ops)
					}
					first(want, writeDeeds("ck", text), min(n, f.at))
					if n > f.at {
						right(t, want.Remove("ck~"))
					}
					same(t, got, want, keepsBehind(start(), text))
				}
			})
		}
	}
}

func TestH1ADeadDisk(t *testing.T) {
	for what, start := range starts(t, roomy) {
		d := start()
		ops, was := d.Ops(), said(d)
		d.Stop(0)
		if e := swap.Write(d, "ck", "new"); e != api.ErrDead || d.Ops() != ops || said(d) != was {
			t.Errorf("%s: %v, %d operations, %q", what, e, d.Ops()-ops, said(d))
		}
		d.Stop(-1)
		right(t, swap.Write(d, "ck", "new"))
	}
}

func TestH1AWriteHasOneAppendAndOneSync(t *testing.T) {
	for n := 1; n <= 8; n++ {
		d := disk.New(roomy)
		d.Fail(n)
		for i := range 4 {
			want := api.OK
			if (n-1)/2 == i {
				want = api.ErrIO
			}
			if e := swap.Write(d, "ck", fmt.Sprint(i)); e != want {
				t.Errorf("Fail(%d), Write %d: %v", n, i, e)
			}
		}
	}
}

func TestNoDiskHasNoPower(t *testing.T) {
	if e := swap.Write(nil, "ck", "x"); e != api.ErrDead {
		t.Error(e)
	}
	if e := swap.Write(nil, "ck~", "x"); e != api.ErrName {
		t.Error(e)
	}
	if e := swap.Clean(nil); e != api.ErrDead {
		t.Error(e)
	}
}

func TestH2NothingEndsSo(t *testing.T) {
	for _, names := range [][]string{nil, {"ck"}, {"~n", "a~b", "ck", "}", strings.Repeat("n", 24)}} {
		d := disk.New(roomy)
		for _, name := range names {
			put(t, d, name, "x", false)
		}
		ops, was := d.Ops(), said(d)
		if e := swap.Clean(d); e != api.OK || d.Ops() != ops+1 {
			t.Error(names, e, d.Ops()-ops)
		}
		has(t, d, was)
		has(t, d.Crash(disk.Keep{}), strings.ReplaceAll(was, "=x", "=")) // the names will stay, but no byte is synced
	}
}

// littered has names that end with ~ and others, created in another order than List's.
func littered(t *testing.T) *disk.Disk {
	d := disk.New(roomy)
	put(t, d, "z~", "1", true)
	put(t, d, "~", "2", false)
	put(t, d, "ck", "3", true)
	put(t, d, "ck~", "45", false)
	put(t, d, "a~~", "6", true)
	put(t, d, "~b", "7", true)
	put(t, d, "Z~", "8", false)
	put(t, d, strings.Repeat("n", 23)+"~", "9", false)
	return d
}

func TestH2EachThatEndsSo(t *testing.T) {
	d := littered(t)
	ops := d.Ops()
	if e := swap.Clean(d); e != api.OK || d.Ops() != ops+7 {
		t.Fatal(e, d.Ops()-ops)
	}
	for _, k := range []disk.Keep{{}, {Dir: 3}, whole(d)} {
		has(t, d.Crash(k), "ck=3 ~b=7 ")
	}
	if e := swap.Clean(d); e != api.OK || d.Ops() != ops+8 {
		t.Fatal(e, d.Ops()-ops)
	}
	has(t, d, "ck=3 ~b=7 ")
}

func TestH2InTheOrderOfListTillThePowerGoes(t *testing.T) {
	inOrder := []string{"Z~", "a~~", "ck~", strings.Repeat("n", 23) + "~", "z~", "~"}
	for n := range len(inOrder) + 3 {
		got, want := littered(t), littered(t)
		ops := got.Ops()
		got.Stop(n)
		e := swap.Clean(got)
		if (e == api.OK) != (n > len(inOrder)) || e != api.OK && e != api.ErrDead {
			t.Fatalf("power for %d operations: %v", n, e)
		}
		if got.Ops() != ops+min(n, len(inOrder)+1) {
			t.Fatalf("power for %d operations: %d were done", n, got.Ops()-ops)
		}
		for _, name := range inOrder[:min(n, len(inOrder))] {
			right(t, want.Remove(name))
		}
		if n > len(inOrder) {
			right(t, want.SyncDir())
		}
		same(t, got, want, keeps(10, 0, 1, 0, 2, 0, 0, 1, 1))
		rest := got.Crash(disk.Keep{})
		right(t, swap.Clean(rest)) // what it did not reach the next one does
		has(t, rest, "ck=3 ~b=7 ")
	}
}

func TestH2FailDoesNotMatter(t *testing.T) {
	d := littered(t)
	d.Fail(1)
	right(t, swap.Clean(d))
	has(t, d, "ck=3 ~b=7 ")
	if e := swap.Write(d, "ck", "x"); e != api.ErrIO {
		t.Error(e)
	}
}
