package disk_test

import (
	"fmt"
	"math"
	"math/rand"
	"slices"
	"strings"
	"testing"

	"postroom/api"
	"postroom/disk"
)

const roomy = 1 << 20

// said is all files of a disk that has power.
func said(d *disk.Disk) string {
	var out strings.Builder
	for _, name := range d.List() {
		text, e := d.Read(name)
		if e != api.OK {
			return e.Error()
		}
		fmt.Fprintf(&out, "%s=%s ", name, text)
	}
	return out.String()
}

// tells does the steps, and wants that error of each.
func tells(t *testing.T, d *disk.Disk, want api.Errno, l ...step) {
	t.Helper()
	for _, s := range l {
		if e := do(d, s); e != want {
			t.Fatalf("%s: %v, not %v", s, e, want)
		}
	}
}

func has(t *testing.T, d *disk.Disk, want string) {
	t.Helper()
	if got := said(d); got != want {
		t.Fatalf("there is %q, not %q", got, want)
	}
}

func create(name string) step     { return step{op: "Create", name: name} }
func add(name, s string) step     { return step{op: "Append", name: name, to: s} }
func cut(name string, n int) step { return step{op: "Cut", name: name, n: n} }
func sync(name string) step       { return step{op: "Sync", name: name} }
func rename(from, to string) step { return step{op: "Rename", name: from, to: to} }
func remove(name string) step     { return step{op: "Remove", name: name} }
func syncDir() step               { return step{op: "SyncDir"} }
func made(room int, l ...step) *disk.Disk {
	d := disk.New(room)
	for _, s := range l {
		if e := do(d, s); e != api.OK {
			panic(s.String() + ": " + e.Error())
		}
	}
	return d
}

// sevenOf are all operations, each such that it would tell OK, where a file has the name.
func sevenOf(name string) []step {
	return []step{create("new"), add(name, "x"), cut(name, 0), sync(name), rename(name, "other"), remove(name), syncDir()}
}

func TestG1NewIsEmpty(t *testing.T) {
	for _, room := range []int{math.MinInt, -1, 0, 1, 100, math.MaxInt} {
		d := disk.New(room)
		if len(d.List()) != 0 || d.Used() != 0 || d.Ops() != 0 {
			t.Error(room, d.List(), d.Used(), d.Ops())
		}
		if s, e := d.Read("a"); s != "" || e != api.ErrNone {
			t.Error(room, s, e)
		}
		tells(t, d, api.OK, syncDir(), create("a"))
		has(t, d, "a= ")
	}
}

func TestG1Names(t *testing.T) {
	if disk.MaxName != 24 {
		t.Error(disk.MaxName)
	}
	for b := range 256 {
		is := b >= 33 && b <= 126
		want := api.ErrName
		if is {
			want = api.OK
		}
		c := string([]byte{byte(b)})
		for _, name := range []string{c, "n" + c, c + "n", "n" + c + "n", strings.Repeat("n", 23) + c, c + strings.Repeat("n", 23)} {
			d := disk.New(0)
			tells(t, d, want, create(name))
			if len(d.List()) == 1 != is {
				t.Errorf("%q: %q", name, d.List())
			}
			d = made(0, create("other"))
			tells(t, d, want, rename("other", name))
			if slices.Contains(d.List(), name) != is || len(d.List()) != 1 {
				t.Errorf("%q: %q", name, d.List())
			}
		}
	}
	for size := range 60 {
		want := api.ErrName
		if size >= 1 && size <= 24 {
			want = api.OK
		}
		name := strings.Repeat("~", size)
		tells(t, disk.New(0), want, create(name))
		tells(t, made(0, create("other")), want, rename("other", name))
	}
	for _, name := range []string{"", "é", "a b", "a\n", "\x00", strings.Repeat("é", 12), strings.Repeat("n", 1<<16)} {
		tells(t, disk.New(0), api.ErrName, create(name))
		tells(t, made(0, create("other")), api.ErrName, rename("other", name))
	}
	d := made(0, create("n"), create(strings.Repeat("n", 24)), create("N"), create("!"), create("~"), create("/"))
	has(t, d, "!= /= N= n= nnnnnnnnnnnnnnnnnnnnnnnn= ~= ")
}

func TestG1Create(t *testing.T) {
	d := made(roomy, create("a"), add("a", "xyz"))
	tells(t, d, api.ErrThere, create("a"))
	has(t, d, "a=xyz ")
	tells(t, d, api.ErrName, create(""), create("a "), create(strings.Repeat("a", 25)))
	tells(t, d, api.OK, create("b"), remove("a"))
	has(t, d, "b= ")
	tells(t, d, api.OK, create("a"))
	has(t, d, "a= b= ")
}

func TestG1Append(t *testing.T) {
	d := disk.New(roomy)
	tells(t, d, api.ErrNone, add("a", "x"), add("", ""), add("a b", "x"), add("a", strings.Repeat("x", roomy+1)))
	tells(t, d, api.OK, create("a"), add("a", ""), add("a", "xy"), add("a", "\x00\xff"), add("a", ""), add("a", "z"))
	has(t, d, "a=xy\x00\xffz ")
	tells(t, d, api.OK, create("b"), add("b", "q"), add("a", "!"))
	has(t, d, "a=xy\x00\xffz! b=q ")
}

func TestG1Room(t *testing.T) {
	d := made(10, create("a"), create("b"), add("a", "123456"))
	tells(t, d, api.ErrFull, add("b", "12345"), add("a", "12345"), add("b", strings.Repeat("x", 1<<16)))
	has(t, d, "a=123456 b= ")
	tells(t, d, api.OK, add("b", "1234"), add("a", ""), add("b", ""))
	tells(t, d, api.ErrFull, add("a", "x"), add("b", "x"))
	tells(t, d, api.OK, create("c"), create("d")) // names take no room
	tells(t, d, api.OK, cut("a", 5), add("c", "x"))
	tells(t, d, api.ErrFull, add("d", "x"))
	tells(t, d, api.OK, remove("b"), add("d", "wxyz"))
	tells(t, d, api.ErrFull, add("d", "x"))
	tells(t, d, api.OK, rename("c", "a"), add("d", "12345"))
	tells(t, d, api.ErrFull, add("d", "x"))
	has(t, d, "a=x d=wxyz12345 ")
	for _, room := range []int{0, -1, -10, math.MinInt} {
		d := made(room, create("a"), add("a", ""), sync("a"))
		tells(t, d, api.ErrFull, add("a", "x"), add("a", strings.Repeat("x", 100)))
		has(t, d, "a= ")
	}
	d = made(math.MaxInt, create("a"), add("a", strings.Repeat("x", 1<<16)), add("a", "y"))
	if d.Used() != 1<<16+1 {
		t.Error(d.Used())
	}
}

func TestG1Cut(t *testing.T) {
	d := made(roomy, create("a"), add("a", "12345"), create("b"))
	tells(t, d, api.ErrNone, cut("c", 0), cut("c", -1), cut("", 0), cut("a b", 9))
	tells(t, d, api.ErrArg, cut("a", -1), cut("a", 6), cut("a", math.MinInt), cut("a", math.MaxInt), cut("b", 1))
	has(t, d, "a=12345 b= ")
	tells(t, d, api.OK, cut("a", 5), cut("b", 0))
	has(t, d, "a=12345 b= ")
	tells(t, d, api.OK, cut("a", 3))
	has(t, d, "a=123 b= ")
	tells(t, d, api.ErrArg, cut("a", 4)) // what was cut off is gone
	tells(t, d, api.OK, add("a", "x"), cut("a", 4), cut("a", 1), add("a", "yz"))
	has(t, d, "a=1yz b= ")
	tells(t, d, api.OK, cut("a", 0), cut("a", 0))
	has(t, d, "a= b= ")
}

func TestG1SyncLeavesWhatThereIs(t *testing.T) {
	d := made(roomy, create("a"), add("a", "12"))
	tells(t, d, api.ErrNone, sync("b"), sync(""), sync("a b"))
	tells(t, d, api.OK, sync("a"), sync("a"), syncDir(), syncDir())
	has(t, d, "a=12 ")
}

func TestG1Rename(t *testing.T) {
	d := made(roomy, create("a"), add("a", "1"), create("b"), add("b", "22"), create("c"), add("c", "333"))
	tells(t, d, api.ErrNone, rename("x", "y"), rename("x", "a"), rename("x", "x"), rename("x", ""), rename("", ""), rename("x", "a b"))
	tells(t, d, api.ErrName, rename("a", ""), rename("a", "a b"), rename("a", strings.Repeat("n", 25)), rename("a", "\x7f"))
	has(t, d, "a=1 b=22 c=333 ")
	tells(t, d, api.OK, rename("a", "a"), rename("b", "b"))
	has(t, d, "a=1 b=22 c=333 ")
	if d.Used() != 6 {
		t.Error(d.Used())
	}
	tells(t, d, api.OK, rename("a", "z"))
	has(t, d, "b=22 c=333 z=1 ")
	tells(t, d, api.ErrNone, rename("a", "z"))
	tells(t, d, api.OK, rename("z", "b"))
	has(t, d, "b=1 c=333 ")
	if d.Used() != 4 {
		t.Error(d.Used())
	}
	tells(t, d, api.OK, create("a"), add("b", "!"), rename("c", "a"))
	has(t, d, "a=333 b=1! ")
}

func TestG1Remove(t *testing.T) {
	d := made(roomy, create("a"), add("a", "1"), create("b"))
	tells(t, d, api.ErrNone, remove("c"), remove(""), remove("a b"))
	has(t, d, "a=1 b= ")
	tells(t, d, api.OK, remove("a"))
	has(t, d, "b= ")
	tells(t, d, api.ErrNone, remove("a"), add("a", ""), cut("a", 0), sync("a"), rename("a", "b"))
	tells(t, d, api.OK, remove("b"))
	has(t, d, "")
}

func TestG1WithoutPower(t *testing.T) {
	d := made(4, create("a"), add("a", "123"), create("b"))
	d.Stop(0)
	tells(t, d, api.ErrDead, sevenOf("a")...)
	tells(t, d, api.ErrDead, // also of what errs otherwise
		create(""), create("a"), add("x", ""), add("a", "12"), cut("x", 0), cut("a", 9), cut("a", -1), sync("x"), rename("x", "y"), rename("a", ""), rename("a", "b"), remove("x"))
	for _, name := range []string{"a", "b", "x", ""} {
		if s, e := d.Read(name); s != "" || e != api.ErrDead {
			t.Errorf("Read(%q): %q, %v", name, s, e)
		}
	}
	if fmt.Sprint(d.List(), d.Used(), d.Ops()) != "[a b] 3 3" {
		t.Error(d.List(), d.Used(), d.Ops())
	}
	d.Stop(-1)
	has(t, d, "a=123 b= ")
	has(t, d.Crash(disk.Keep{}), "") // neither the SyncDir nor the Sync was done
	has(t, d.Crash(disk.Keep{Dir: 1}), "a= ")
	has(t, d.Crash(disk.Keep{Dir: 9, Files: []int{9}}), "a=123 b= ")
}

func TestG2Read(t *testing.T) {
	all := make([]byte, 256)
	for i := range all {
		all[i] = byte(i)
	}
	d := made(roomy, create("a"), add("a", string(all)), create("e"))
	if s, e := d.Read("a"); s != string(all) || e != api.OK {
		t.Errorf("%q, %v", s, e)
	}
	if s, e := d.Read("e"); s != "" || e != api.OK {
		t.Errorf("%q, %v", s, e)
	}
	for _, name := range []string{"", "b", "A", "a ", "a b", strings.Repeat("a", 25)} {
		if s, e := d.Read(name); s != "" || e != api.ErrNone {
			t.Errorf("%q: %q, %v", name, s, e)
		}
	}
	before, _ := d.Read("a")
	tells(t, d, api.OK, cut("a", 3), add("a", "others"))
	if before != string(all) {
		t.Error("what was read is another now")
	}
}

func TestG2ListRisesByBytes(t *testing.T) {
	names := []string{"b", "a", "~", "!", "Z", "aa", "a!", "a~", "0", "10", "9", "_", strings.Repeat("a", 24)}
	want := slices.Sorted(slices.Values(names))
	r := rand.New(rand.NewSource(1))
	for range 50 {
		r.Shuffle(len(names), func(i, j int) { names[i], names[j] = names[j], names[i] })
		d := disk.New(0)
		for _, name := range names {
			tells(t, d, api.OK, create(name))
		}
		l := d.List()
		if !slices.Equal(l, want) {
			t.Fatalf("%q", l)
		}
		l[0] = "written into"
		_ = append(l[:1], "this too")
		if !slices.Equal(d.List(), want) {
			t.Fatalf("%q", d.List())
		}
	}
}

func TestG2Used(t *testing.T) {
	d := disk.New(10)
	for _, c := range []struct {
		s    step
		want api.Errno
		used int
	}{
		{create("a"), 0, 0}, {add("a", "123"), 0, 3}, {create("b"), 0, 3}, {add("b", "4567"), 0, 7}, {add("b", "8901"), api.ErrFull, 7},
		{cut("a", 3), 0, 7}, {cut("a", 9), api.ErrArg, 7}, {cut("a", 1), 0, 5}, {sync("a"), 0, 5}, {rename("b", "c"), 0, 5}, {rename("c", "c"), 0, 5},
		{create("a"), api.ErrThere, 5}, {rename("a", "c"), 0, 1}, {create("a"), 0, 1}, {add("a", "123456789"), 0, 10}, {remove("c"), 0, 9}, {remove("c"), api.ErrNone, 9},
		{rename("a", ""), api.ErrName, 9}, {remove("a"), 0, 0}, {syncDir(), 0, 0}, {create("a"), 0, 0},
	} {
		tells(t, d, c.want, c.s)
		if d.Used() != c.used {
			t.Errorf("%s: %d, not %d", c.s, d.Used(), c.used)
		}
	}
}

func TestG2OpsCountWhateverIsTold(t *testing.T) {
	d := disk.New(3)
	for i, s := range []step{
		create("a"), create("a"), create(""), add("a", "xy"), add("b", ""), add("a", "123"), cut("a", 1), cut("a", 9), cut("b", 0), sync("a"), sync("b"),
		rename("a", "c"), rename("a", "c"), rename("c", ""), rename("c", "c"), remove("c"), remove("c"), syncDir(), syncDir(),
	} {
		do(d, s)
		if d.Ops() != i+1 {
			t.Errorf("%s: %d, not %d", s, d.Ops(), i+1)
		}
	}
	ops := d.Ops()
	d.Read("a")
	d.Read("c")
	d.List()
	d.Used()
	d.Ops()
	d.Fail(1)
	d.Fail(0)
	d.Stop(5)
	d.Crash(disk.Keep{})
	if d.Ops() != ops {
		t.Error("these are no operations", d.Ops())
	}
	d.Stop(0)
	for _, s := range sevenOf("a") {
		tells(t, d, api.ErrDead, s)
	}
	d.Read("a")
	if d.Ops() != ops {
		t.Error("without power none counts", d.Ops())
	}
	d.Stop(-1)
	tells(t, d, api.OK, create("a"))
	d.Fail(1)
	tells(t, d, api.ErrIO, sync("a"))
	if d.Ops() != ops+2 {
		t.Error("what fails counts", d.Ops())
	}
}

func TestG3FailAtEach(t *testing.T) {
	right := []step{add("a", "1"), sync("a"), add("a", "2"), add("b", "x"), add("a", ""), sync("b"), sync("a"), add("a", "3")}
	besides := []step{create("n"), add("n2", "x"), rename("n", "m"), cut("m", 0), remove("m"), syncDir(), sync("n"), add("a", strings.Repeat("x", 101)), add("n", "")}
	for at := -2; at <= len(right)+2; at++ {
		d := made(100, create("a"), create("b"))
		d.Fail(at)
		text := ""
		for i, s := range right {
			for _, other := range besides { // none of these is an Append or a Sync that would tell OK
				if e := do(d, other); e == api.ErrIO {
					t.Fatalf("Fail(%d): %s failed", at, other)
				}
			}
			want := api.OK
			if i+1 == at {
				want = api.ErrIO
			} else if s.name == "a" {
				text += s.to
			}
			tells(t, d, want, s)
			if got, e := d.Read("a"); got != text || e != api.OK {
				t.Fatalf("Fail(%d), %d: %q, %v, not %q", at, i, got, e, text)
			}
		}
	}
}

func TestG3FailOnce(t *testing.T) {
	d := made(100, create("a"))
	d.Fail(1)
	tells(t, d, api.ErrIO, add("a", "x"))
	for range 20 {
		tells(t, d, api.OK, add("a", "y"), sync("a"))
	}
	has(t, d, "a="+strings.Repeat("y", 20)+" ")
}

func TestG3FailSaidAgain(t *testing.T) {
	d := made(100, create("a"))
	d.Fail(3)
	tells(t, d, api.OK, add("a", "1"), add("a", "2"))
	d.Fail(3) // counted from now on
	tells(t, d, api.OK, sync("a"), add("a", "3"))
	tells(t, d, api.ErrIO, add("a", "4"))
	for _, none := range []int{0, -1, math.MinInt} {
		d.Fail(1)
		d.Fail(none)
		tells(t, d, api.OK, sync("a"), add("a", "5"), sync("a"), sync("a"))
	}
	d.Fail(math.MaxInt)
	tells(t, d, api.OK, sync("a"), sync("a"))
	d.Fail(5)
	d.Fail(1)
	tells(t, d, api.ErrIO, sync("a"))
	tells(t, d, api.OK, sync("a"), sync("a"), sync("a"), sync("a"), sync("a"))
	has(t, d, "a=123555 ")
}

// An Append or a Sync that fails leaves the moments as they were.
func TestG3WhatFailsChangesNothing(t *testing.T) {
	d := made(100, create("a"), add("a", "12"), syncDir())
	d.Fail(1)
	tells(t, d, api.ErrIO, sync("a"))
	has(t, d.Crash(disk.Keep{}), "a= ")
	d.Fail(1)
	tells(t, d, api.ErrIO, add("a", "xy"))
	if d.Used() != 2 {
		t.Error(d.Used())
	}
	tells(t, d, api.OK, add("a", "3"))
	for i, want := range []string{"a= ", "a=1 ", "a=12 ", "a=123 ", "a=123 "} {
		has(t, d.Crash(disk.Keep{Files: []int{i}}), want)
	}
}

// Without power nothing would tell OK, so that Fail waits.
func TestG3FailWaitsForPower(t *testing.T) {
	d := made(100, create("a"))
	d.Fail(2)
	d.Stop(1)
	tells(t, d, api.OK, sync("a"))
	tells(t, d, api.ErrDead, sync("a"), add("a", "x"), sync("a"))
	d.Stop(-1)
	tells(t, d, api.ErrIO, sync("a"))
	tells(t, d, api.OK, sync("a"))
}

func TestG3StopAtEach(t *testing.T) {
	steps := []step{create("a"), create("a"), add("a", "x"), add("b", "x"), cut("a", 9), cut("a", 1), sync("a"), rename("a", ""), rename("a", "b"), syncDir(), remove("b"), remove("b")}
	for n := range len(steps) + 2 {
		d, b := disk.New(100), newBook(100)
		d.Stop(n)
		for i, s := range steps {
			want := api.ErrDead
			if i < n {
				want = b.do(s)
			}
			tells(t, d, want, s)
			if d.Ops() != min(i+1, n) {
				t.Errorf("Stop(%d), %s: Ops %d", n, s, d.Ops())
			}
		}
		if n <= len(steps) {
			b.stop = 0
		}
		same(t, b, d)
	}
}

// The power goes behind the last operation, not ahead of the one that it lacks for.
func TestG3StopGoesAtOnce(t *testing.T) {
	d := made(100, create("a"), add("a", "x"))
	d.Stop(1)
	if s, e := d.Read("a"); s != "x" || e != api.OK {
		t.Error(s, e)
	}
	tells(t, d, api.ErrNone, remove("b"))
	if s, e := d.Read("a"); s != "" || e != api.ErrDead {
		t.Error(s, e)
	}
	d.Stop(1)
	for range 5 { // no operation
		d.Read("a")
		d.List()
		d.Used()
		d.Crash(disk.Keep{})
	}
	tells(t, d, api.OK, syncDir())
	tells(t, d, api.ErrDead, syncDir())
	d.Stop(3)
	d.Stop(0)
	if s, e := d.Read("a"); s != "" || e != api.ErrDead {
		t.Error(s, e)
	}
}

func TestG3StopSaidAgain(t *testing.T) {
	d := disk.New(100)
	d.Stop(2)
	tells(t, d, api.OK, syncDir())
	d.Stop(2)
	tells(t, d, api.OK, syncDir(), syncDir())
	tells(t, d, api.ErrDead, syncDir())
	for _, ever := range []int{-1, -2, -7, math.MinInt} {
		d.Stop(1)
		d.Stop(ever)
		for range 50 {
			tells(t, d, api.OK, syncDir())
		}
		d.Stop(0)
		tells(t, d, api.ErrDead, syncDir())
	}
	d.Stop(math.MaxInt)
	tells(t, d, api.OK, syncDir(), create("a"), sync("a"))
	d.Fail(1)
	d.Stop(-1) // leaves what Fail said
	tells(t, d, api.ErrIO, sync("a"))
	d.Stop(1)
	d.Fail(1) // leaves what Stop said
	tells(t, d, api.ErrIO, sync("a"))
	tells(t, d, api.ErrDead, sync("a"))
}

func TestG4Example(t *testing.T) {
	d := made(roomy, create("a"), syncDir(), add("a", "xyz"))
	has(t, d.Crash(disk.Keep{Files: []int{2}}), "a=xy ")
}

func TestG4FrontsOfNames(t *testing.T) {
	d := made(roomy, create("k"), create("r"), create("o"), add("k", "K"), add("r", "R"), add("o", "O"), sync("k"), sync("r"), sync("o"), syncDir(),
		create("n"), rename("r", "s"), remove("k"), rename("s", "o"), rename("o", "o"), create("k"), rename("n", "k"))
	all := []int{0, 0, 0, 0, 0}
	for dir, want := range []string{
		"k=K o=O r=R ", "k=K n= o=O r=R ", "k=K n= o=O s=R ", "n= o=O s=R ", "n= o=R ",
		"n= o=R ", // onto itself: a change of names that changes nothing
		"k= n= o=R ", "k= o=R ", "k= o=R ",
	} {
		has(t, d.Crash(disk.Keep{Dir: dir, Files: all}), want)
	}
	for _, below := range []int{-1, -2, math.MinInt} {
		has(t, d.Crash(disk.Keep{Dir: below}), "k=K o=O r=R ")
	}
	has(t, d.Crash(disk.Keep{Dir: math.MaxInt}), "k= o=R ")
}

// What told an error is no change of names.
func TestG4WhatErredIsNoChange(t *testing.T) {
	d := made(roomy, create("a"))
	tells(t, d, api.ErrThere, create("a"))
	tells(t, d, api.ErrName, create(""), rename("a", ""))
	tells(t, d, api.ErrNone, rename("x", "y"), remove("x"))
	tells(t, d, api.OK, create("b"))
	has(t, d.Crash(disk.Keep{Dir: 1}), "a= ")
	has(t, d.Crash(disk.Keep{Dir: 2}), "a= b= ")
}

func TestG4FrontsOfMoments(t *testing.T) {
	d := made(roomy, create("a"), add("a", "12"), cut("a", 1), add("a", "34"), sync("a"), syncDir(),
		add("a", "567"), add("a", ""), cut("a", 4), cut("a", 4), add("a", "8"), cut("a", 0), cut("a", 0), add("a", "90"), cut("a", 1))
	tells(t, d, api.ErrArg, cut("a", 9), cut("a", -1))
	tells(t, d, api.ErrFull, add("a", strings.Repeat("x", roomy)))
	for n, want := range []string{"134", "1345", "13456", "134567", "1345", "1345", "13458", "", "", "9", "90", "9", "9", "9"} {
		has(t, d.Crash(disk.Keep{Files: []int{n}}), "a="+want+" ")
	}
	for _, below := range []int{-1, -5, math.MinInt} {
		has(t, d.Crash(disk.Keep{Files: []int{below}}), "a=134 ")
	}
	for _, none := range [][]int{nil, {}} {
		has(t, d.Crash(disk.Keep{Files: none}), "a=134 ")
	}
	has(t, d.Crash(disk.Keep{Files: []int{math.MaxInt}}), "a=9 ")
	has(t, d.Crash(disk.Keep{Files: []int{0, 9, 9}}), "a=134 ")
}

// A cut of what was synced is a moment like others: it may be lost, and may not.
func TestG4CutOfWhatWasSynced(t *testing.T) {
	d := made(roomy, create("a"), add("a", "12345"), sync("a"), syncDir(), cut("a", 2), add("a", "x"))
	for n, want := range []string{"12345", "12", "12x"} {
		has(t, d.Crash(disk.Keep{Files: []int{n}}), "a="+want+" ")
	}
	tells(t, d, api.OK, sync("a"))
	for n := range 4 {
		has(t, d.Crash(disk.Keep{Files: []int{n}}), "a=12x ")
	}
}

// Moments are a file's, whatever its name is.
func TestG4RenamedAndRemoved(t *testing.T) {
	d := made(roomy, create("a"), add("a", "1"), syncDir(), rename("a", "b"), add("b", "2"), create("a"), add("a", "xy"), rename("a", "b"), add("b", "z"))
	for _, c := range []struct {
		dir   int
		files []int
		want  string
	}{
		{0, nil, "a= "}, {0, []int{1}, "a=1 "}, {0, []int{2}, "a=12 "}, {0, []int{2, 3}, "a=12 "}, {1, []int{2, 3}, "b=12 "},
		{2, []int{1, 2}, "a=xy b=1 "}, {2, []int{2, 3}, "a=xyz b=12 "}, {3, []int{2, 3}, "b=xyz "}, {3, []int{2}, "b= "}, {9, []int{0, 1}, "b=x "},
	} {
		has(t, d.Crash(disk.Keep{Dir: c.dir, Files: c.files}), c.want)
	}
	d = made(roomy, create("a"), add("a", "123"), syncDir(), remove("a"), create("a"), add("a", "xy"), sync("a"))
	has(t, d.Crash(disk.Keep{Dir: 0, Files: []int{2}}), "a=12 ")
	has(t, d.Crash(disk.Keep{Dir: 1, Files: []int{2}}), "")
	has(t, d.Crash(disk.Keep{Dir: 2, Files: []int{2}}), "a=xy ")
	tells(t, d, api.OK, syncDir())
	for dir := -1; dir < 4; dir++ {
		has(t, d.Crash(disk.Keep{Dir: dir}), "a=xy ")
	}
}

// A file keeps its number when others are gone, for good or not.
func TestG4Numbers(t *testing.T) {
	d := made(roomy, create("c"), create("b"), remove("c"), syncDir(), create("a"), rename("b", "z"))
	tells(t, d, api.ErrThere, create("a"))
	tells(t, d, api.ErrName, create("")) // creates nothing, so takes no number
	tells(t, d, api.OK, create("d"), syncDir(), add("z", "11"), add("a", "22"), add("d", "33"))
	has(t, d.Crash(disk.Keep{Files: []int{9, 0, 1, 2}}), "a=2 d=33 z= ")
	has(t, d.Crash(disk.Keep{Files: []int{9, 1}}), "a= d= z=1 ")
	has(t, d.Crash(disk.Keep{Files: []int{0, 0, 0, 0, 9, 9}}), "a= d= z= ")
}

func TestG4NumberedAnew(t *testing.T) {
	d := made(roomy, create("x"), create("c"), create("b"), create("a"), remove("x"), rename("c", "z"), syncDir())
	other := d.Crash(disk.Keep{})
	tells(t, other, api.OK, add("z", "00"), add("b", "11"), add("a", "22"), create("n"), add("n", "33"), syncDir())
	has(t, other.Crash(disk.Keep{Files: []int{2, 1, 0, 1}}), "a= b=1 n=3 z=00 ")
	has(t, other.Crash(disk.Keep{Files: []int{0, 0, 2}}), "a=22 b= n= z= ")
	third := other.Crash(disk.Keep{Files: []int{1, 1, 1, 1}})
	tells(t, third, api.OK, remove("z"), syncDir(), add("b", "!"), add("n", "?"))
	has(t, third.Crash(disk.Keep{Files: []int{0, 1, 0, 1}}), "a=2 b=1! n=3? ")
	has(t, third.Crash(disk.Keep{Files: []int{9, 0, 0, 0}}).Crash(disk.Keep{Files: []int{9}}), "a=2 b=1 n=3 ")
}

// On the other disk all that is left is synced, by its files and its names.
func TestG4AllThatIsLeftWillStay(t *testing.T) {
	d := made(roomy, create("a"), add("a", "123"), create("b"))
	other := d.Crash(disk.Keep{Dir: 1, Files: []int{2}})
	has(t, other, "a=12 ")
	for dir := -1; dir < 3; dir++ {
		for n := -1; n < 4; n++ {
			has(t, other.Crash(disk.Keep{Dir: dir, Files: []int{n, n}}), "a=12 ")
		}
	}
	tells(t, other, api.OK, create("c"), remove("a"), cut("c", 0))
	has(t, other.Crash(disk.Keep{}), "a=12 ")
	has(t, other.Crash(disk.Keep{Dir: 1}), "a=12 c= ")
	has(t, other.Crash(disk.Keep{Dir: 2}), "c= ")
}

func TestG4NothingElseWasAsked(t *testing.T) {
	d := made(5, create("a"), add("a", "12345"), sync("a"), syncDir())
	d.Fail(1)
	d.Stop(0)
	other := d.Crash(disk.Keep{})
	if other.Ops() != 0 || other.Used() != 5 {
		t.Error(other.Ops(), other.Used())
	}
	tells(t, other, api.OK, sync("a"), add("a", ""), sync("a"))
	tells(t, other, api.ErrFull, add("a", "x"))
	tells(t, other, api.OK, cut("a", 4), add("a", "x"))
	has(t, other, "a=1234x ")
	if other.Ops() != 6 {
		t.Error(other.Ops())
	}
	d.Stop(-1)
	tells(t, d, api.ErrIO, sync("a")) // what was asked of the first one is so still
	empty := disk.New(-1).Crash(disk.Keep{Dir: 5, Files: []int{5}})
	has(t, empty, "")
	tells(t, empty, api.OK, create("a"))
	tells(t, empty, api.ErrFull, add("a", "x"))
}

// What comes back may be more than there is room for; then nothing may be appended, not even no bytes.
func TestG4MoreThanRoom(t *testing.T) {
	d := made(4, create("a"), add("a", "1234"), sync("a"), syncDir(), remove("a"), create("b"), add("b", "xyz"), sync("b"))
	other := d.Crash(disk.Keep{Dir: 0})
	has(t, other, "a=1234 ")
	d = made(4, create("a"), create("b"), add("a", "1234"), sync("a"), syncDir(), cut("a", 0), add("b", "xyz"), sync("b"))
	other = d.Crash(disk.Keep{})
	has(t, other, "a=1234 b=xyz ")
	if other.Used() != 7 {
		t.Error(other.Used())
	}
	tells(t, other, api.ErrFull, add("a", ""), add("b", "x"))
	tells(t, other, api.OK, cut("a", 2))
	tells(t, other, api.ErrFull, add("b", ""))
	tells(t, other, api.OK, cut("a", 1), add("b", ""))
	tells(t, other, api.ErrFull, add("b", "x"))
}

// Neither disk sees what is done with the other one, whatever of their bytes is the same.
func TestG4TheFirstStays(t *testing.T) {
	build := func() *disk.Disk {
		return made(roomy, create("a"), add("a", "123"), sync("a"), syncDir(), add("a", "45"), cut("a", 4), add("a", "67"), create("b"), add("b", "xy"), rename("b", "c"))
	}
	worked := []step{add("a", "!!"), cut("a", 2), add("a", "????"), sync("a"), remove("a"), create("a"), add("a", "other"), syncDir()}
	var keeps []disk.Keep
	for dir := range 4 {
		for n := range 8 {
			keeps = append(keeps, disk.Keep{Dir: dir, Files: []int{n, n}})
		}
	}
	for _, k := range keeps {
		d := build()
		other := d.Crash(k)
		left, ops := said(other), d.Ops()
		tells(t, other, api.OK, worked...)
		has(t, d, "a=123467 c=xy ")
		if d.Ops() != ops || d.Used() != 8 {
			t.Fatal(d.Ops(), d.Used())
		}
		for _, again := range keeps {
			has(t, d.Crash(again), said(build().Crash(again)))
		}
		other = d.Crash(k)
		tells(t, d, api.OK, worked...)
		has(t, other, left)
		has(t, other.Crash(disk.Keep{Dir: 9, Files: []int{9, 9}}), left)
	}
}

func TestG4KeepIsOnlyRead(t *testing.T) {
	d := made(roomy, create("a"), create("b"), syncDir(), add("a", "123"), add("b", "456"))
	files := []int{1, 2, 3, 4}
	other := d.Crash(disk.Keep{Files: files[:1]}) // what lies behind its length does not count
	has(t, other, "a=1 b= ")
	files[0] = 3
	has(t, other, "a=1 b= ")
	if !slices.Equal(files, []int{3, 2, 3, 4}) {
		t.Error(files)
	}
}

// What was synced of a is `12`, and its name: that is there behind each step, whatever is left of the others.
func TestG5WhatWasSyncedStays(t *testing.T) {
	d := made(roomy, create("a"), create("b"), add("a", "12"), sync("a"), syncDir())
	b := newBook(roomy)
	for _, s := range []step{create("a"), create("b"), add("a", "12"), sync("a"), syncDir()} {
		b.do(s)
	}
	for _, s := range []step{
		add("a", "3"), create("c"), rename("b", "d"), add("a", "45"), remove("d"), add("c", "x"), rename("c", "e"), sync("e"), add("a", ""), create("b"), add("b", "y"),
	} {
		tells(t, d, b.do(s), s)
		now, _ := d.Read("a")
		for _, k := range everyKeep(b) {
			text, e := d.Crash(k).Read("a")
			if e != api.OK || !strings.HasPrefix(text, "12") || !strings.HasPrefix(now, text) {
				t.Fatalf("%s, Crash(%v): %q, %v", s, k, text, e)
			}
		}
	}
}

// Of steps by chance: which names were synced and not touched since, which bytes of their files were
// synced, and whether they were cut since, is followed here beside the disk.
func TestG5ByChance(t *testing.T) {
	for seed := range 150 {
		r := rand.New(rand.NewSource(int64(seed) + 5000))
		d, b := disk.New(200), newBook(200)
		held, synced, whole := map[string]bool{}, map[string]string{}, map[string]bool{}
		for range 60 {
			s := aStep(r.Intn)
			e := do(d, s)
			if e != b.do(s) {
				t.Fatal(s, e)
			}
			if e != api.OK {
				continue
			}
			switch s.op {
			case "SyncDir":
				for _, name := range d.List() {
					held[name] = true
				}
			case "Create":
				synced[s.name], whole[s.name] = "", true
			case "Sync":
				synced[s.name], _ = d.Read(s.name)
				whole[s.name] = true
			case "Cut":
				whole[s.name] = false
			case "Rename":
				held[s.name], held[s.to] = false, false
				synced[s.to], whole[s.to] = synced[s.name], whole[s.name]
			case "Remove":
				held[s.name] = false
			}
			for range 20 {
				k := disk.Keep{Dir: r.Intn(8) - 1}
				for range r.Intn(len(b.files) + 2) {
					k.Files = append(k.Files, r.Intn(9)-1)
				}
				stays(t, d, k, held, synced, whole)
			}
		}
	}
}

func stays(t *testing.T, d *disk.Disk, k disk.Keep, held map[string]bool, synced map[string]string, whole map[string]bool) {
	t.Helper()
	other := d.Crash(k)
	for name, is := range held {
		if !is {
			continue
		}
		text, e := other.Read(name)
		if e != api.OK {
			t.Fatalf("Crash(%v): %q: %v", k, name, e)
		}
		now, _ := d.Read(name)
		if whole[name] && (!strings.HasPrefix(text, synced[name]) || !strings.HasPrefix(now, text)) {
			t.Fatalf("Crash(%v): %q: %q, of %q, synced %q", k, name, text, now, synced[name])
		}
	}
}

// Nothing that is done often goes through all that there is.
func TestManySteps(t *testing.T) {
	const many = 200000
	d := made(1<<30, create("a"), syncDir())
	for range many {
		tells(t, d, api.OK, add("a", "12345"), sync("a"))
	}
	for range many {
		tells(t, d, api.OK, cut("a", 5*many-1), add("a", "5"))
	}
	if d.Used() != 5*many || d.Crash(disk.Keep{Files: []int{1}}).Used() != 5*many-1 || d.Crash(disk.Keep{Files: []int{2}}).Used() != 5*many {
		t.Error(d.Used())
	}
	for i := range many {
		tells(t, d, api.OK, create(fmt.Sprint("f", i)), add(fmt.Sprint("f", i), "x"), syncDir())
	}
	if d.Used() != 6*many || len(d.List()) != many+1 {
		t.Error(d.Used(), len(d.List()))
	}
	for i := range many {
		tells(t, d, api.OK, rename(fmt.Sprint("f", i), "g"))
	}
	if d.Used() != 5*many+1 || d.Crash(disk.Keep{Dir: many / 2}).Used() != 5*many || len(d.Crash(disk.Keep{Dir: many / 2}).List()) != many/2+2 {
		t.Error(d.Used())
	}
}
