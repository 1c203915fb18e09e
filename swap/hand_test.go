package swap_test

import (
	"fmt"
	"slices"
	"strings"
	"testing"

	"postroom/api"
	"postroom/disk"
)

// A deed is one operation on a disk, with what the words say of its error.
type deed struct {
	op      func(*disk.Disk) api.Errno
	orNone  bool // that there is none does not matter
	orClear bool // if it errs, a Remove of the other follows
}

// writeDeeds are the operations of a Write, by the words of H1.
func writeDeeds(name, s string) []deed {
	other := name + "~"
	return []deed{
		{op: func(d *disk.Disk) api.Errno { return d.Remove(other) }, orNone: true},
		{op: func(d *disk.Disk) api.Errno { return d.Create(other) }},
		{op: func(d *disk.Disk) api.Errno { return d.Append(other, s) }, orClear: true},
		{op: func(d *disk.Disk) api.Errno { return d.Sync(other) }, orClear: true},
		{op: func(d *disk.Disk) api.Errno { return d.Rename(other, name) }},
		{op: func(d *disk.Disk) api.Errno { return d.SyncDir() }},
	}
}

// cleanDeeds are the operations of a Clean, by the words of H2.
func cleanDeeds(d *disk.Disk) []deed {
	var out []deed
	for _, name := range d.List() {
		if name[len(name)-1] == '~' {
			out = append(out, deed{op: func(d *disk.Disk) api.Errno { return d.Remove(name) }})
		}
	}
	return append(out, deed{op: func(d *disk.Disk) api.Errno { return d.SyncDir() }})
}

// writeByHand is a Write of a name that may be swapped.
func writeByHand(d *disk.Disk, name, s string) api.Errno {
	for _, x := range writeDeeds(name, s) {
		e := x.op(d)
		if e == api.OK || e == api.ErrNone && x.orNone {
			continue
		}
		if x.orClear {
			d.Remove(name + "~")
		}
		return e
	}
	return api.OK
}

func cleanByHand(d *disk.Disk) api.Errno {
	for _, x := range cleanDeeds(d) {
		if e := x.op(d); e != api.OK {
			return e
		}
	}
	return api.OK
}

// first does so many of the deeds, whatever they tell, as if the power went behind them.
func first(d *disk.Disk, l []deed, n int) {
	for _, x := range l[:min(n, len(l))] {
		x.op(d)
	}
}

// said is all files of a disk, with power or without.
func said(d *disk.Disk) string {
	all := d.Crash(whole(d))
	var out strings.Builder
	for _, name := range all.List() {
		text, e := all.Read(name)
		if e != api.OK {
			return e.Error()
		}
		fmt.Fprintf(&out, "%s=%s ", name, text)
	}
	return out.String()
}

const many = 1 << 20

// whole keeps all that there is.
func whole(d *disk.Disk) disk.Keep {
	return disk.Keep{Dir: many, Files: slices.Repeat([]int{many}, d.Ops()+len(d.List()))}
}

// keeps are all fronts of so many changes of names, with all fronts of the moments of so many files, one with each other.
func keeps(changes int, moments ...int) []disk.Keep {
	var out []disk.Keep
	files := make([]int, len(moments))
	for {
		for dir := range changes + 1 {
			out = append(out, disk.Keep{Dir: dir, Files: slices.Clone(files)})
		}
		i := 0
		for i < len(files) && files[i] == moments[i] {
			files[i] = 0
			i++
		}
		if i == len(files) {
			return out
		}
		files[i]++
	}
}

// same holds two disks against each other: what there is, and what is left, whichever of these is kept.
func same(t *testing.T, got, want *disk.Disk, l []disk.Keep) {
	t.Helper()
	if got.Ops() != want.Ops() || got.Used() != want.Used() {
		t.Fatalf("Ops %d, Used %d, not %d, %d", got.Ops(), got.Used(), want.Ops(), want.Used())
	}
	if a, b := said(got), said(want); a != b {
		t.Fatalf("there is %q, not %q", a, b)
	}
	for _, k := range l {
		if a, b := said(got.Crash(k)), said(want.Crash(k)); a != b {
			t.Fatalf("%v leaves %q, not %q", k, a, b)
		}
	}
}

func right(t *testing.T, l ...api.Errno) {
	t.Helper()
	for i, e := range l {
		if e != api.OK {
			t.Fatal(i, e)
		}
	}
}

// put makes a file in the plain way, and synced or not.
func put(t *testing.T, d *disk.Disk, name, s string, synced bool) {
	t.Helper()
	right(t, d.Create(name), d.Append(name, s))
	if synced {
		right(t, d.Sync(name), d.SyncDir())
	}
}

func has(t *testing.T, d *disk.Disk, want string) {
	t.Helper()
	if got := said(d); got != want {
		t.Fatalf("there is %q, not %q", got, want)
	}
}
