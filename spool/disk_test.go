package spool_test

import (
	"slices"
	"strings"
	"testing"

	"postroom/api"
	"postroom/disk"
)

const (
	roomy       = 1 << 20
	all         = 1 << 20 // moments, or changes of names: as many as there are
	mostFiles   = 1024    // that a test creates on one disk
	mostMoments = 100     // of a file, since a Sync, where a test looks at all fronts
)

func everything(dir int) disk.Keep {
	return disk.Keep{Dir: dir, Files: slices.Repeat([]int{all}, mostFiles)}
}

// hasPower tells whether there is any: a Read asks for nothing else ahead of it.
func hasPower(d *disk.Disk) bool {
	_, e := d.Read("")
	return e != api.ErrDead
}

// files is all files of a disk, with power or without.
func files(d *disk.Disk) string {
	if !hasPower(d) {
		d = d.Crash(everything(all))
	}
	var out strings.Builder
	for _, name := range d.List() {
		text, _ := d.Read(name)
		out.WriteString(name + "=" + text + "\n")
	}
	return out.String()
}

// changesOf is how many changes of names there were since a SyncDir: each makes a difference.
func changesOf(d *disk.Disk) int {
	n, was := 0, files(d.Crash(everything(0)))
	for {
		now := files(d.Crash(everything(n + 1)))
		if now == was {
			return n
		}
		n, was = n+1, now
	}
}

// left is what there is behind each number of changes of names, and these moments.
func left(d *disk.Disk, changes int, moments []int) []string {
	var out []string
	for dir := range changes + 1 {
		out = append(out, files(d.Crash(disk.Keep{Dir: dir, Files: moments})))
	}
	return out
}

// unsynced are the numbers, of these, of files that are not synced: their first moment makes a difference.
func unsynced(d *disk.Disk, changes int, none []string, from, to int) []int {
	moments := append(make([]int, from), slices.Repeat([]int{1}, to-from)...)
	if from == to || slices.Equal(left(d, changes, moments), none) {
		return nil
	}
	if to-from == 1 {
		return []int{from}
	}
	half := (from + to) / 2
	return append(unsynced(d, changes, none, from, half), unsynced(d, changes, none, half, to)...)
}

// momentsOf is how many moments a file has: each makes a difference, as it is a byte, or cuts some off.
func momentsOf(d *disk.Disk, changes, number int) int {
	moments := make([]int, number+1)
	was := left(d, changes, moments)
	for n := range mostMoments {
		moments[number] = n + 1
		now := left(d, changes, moments)
		if slices.Equal(now, was) {
			return n
		}
		was = now
	}
	panic("there may be more moments than are looked at")
}

// fronts are all keeps of a disk that leave something else: each front of the changes of names, with each
// front of the moments of each file, one with each other.
func fronts(d *disk.Disk) []disk.Keep {
	changes := changesOf(d)
	out := []disk.Keep{{}}
	made := len(d.List()) + 2*d.Ops() // at most: who is gone was taken away by an operation
	for _, number := range unsynced(d, changes, left(d, changes, nil), 0, made) {
		most := momentsOf(d, changes, number)
		for _, k := range out {
			for n := range most {
				moments := make([]int, number+1)
				copy(moments, k.Files)
				moments[number] = n + 1
				out = append(out, disk.Keep{Files: moments})
			}
		}
	}
	for _, k := range out {
		for dir := range changes {
			out = append(out, disk.Keep{Dir: dir + 1, Files: k.Files})
		}
	}
	return out
}

// sameDisk holds a disk against one that was worked by hand.
func sameDisk(t *testing.T, what string, got, want *disk.Disk) {
	t.Helper()
	if got.Ops() != want.Ops() || got.Used() != want.Used() {
		t.Fatalf("%s: Ops %d, Used %d, not %d, %d", what, got.Ops(), got.Used(), want.Ops(), want.Used())
	}
	if a, b := files(got), files(want); a != b {
		t.Fatalf("%s: there is\n%q, not\n%q", what, a, b)
	}
}
