package disk_test

import (
	"fmt"
	"maps"
	"math"
	"math/rand"
	"slices"
	"strings"
	"testing"

	"postroom/api"
	"postroom/disk"
)

// A book is a disk by the words alone: it writes down all names behind each change of names, and all
// bytes of a file behind each of its moments.
type book struct {
	room  int
	names []map[string]int // behind so many changes of names; the last one is what there is
	files [][]string       // by number: behind so many moments; the last one is what it has
	ops   int
	fail  int
	stop  int // below 0: never
}

func newBook(room int) *book {
	return &book{room: max(room, 0), names: []map[string]int{{}}, stop: -1}
}

func last[T any](l []T) T { return l[len(l)-1] }

func (b *book) now() map[string]int { return last(b.names) }

func (b *book) used() int {
	n := 0
	for _, number := range b.now() {
		n += len(last(b.files[number]))
	}
	return n
}

func (b *book) counts() bool {
	if b.stop == 0 {
		return false
	}
	b.stop--
	b.ops++
	return true
}

func (b *book) failsNow() bool {
	b.fail--
	return b.fail == 0
}

func bookName(s string) bool {
	return len(s) >= 1 && len(s) <= 24 && strings.IndexFunc(s, func(r rune) bool { return r < '!' || r > '~' }) < 0
}

func (b *book) changed(change func(map[string]int)) api.Errno {
	names := maps.Clone(b.now())
	change(names)
	b.names = append(b.names, names)
	return api.OK
}

// A step is one operation, with all that it may be handed.
type step struct {
	op       string
	name, to string
	n        int
}

func (s step) String() string { return fmt.Sprintf("%s(%.30q %.30q %d)", s.op, s.name, s.to, s.n) }

func (b *book) do(s step) api.Errno {
	if !b.counts() {
		return api.ErrDead
	}
	number, there := b.now()[s.name]
	switch s.op {
	case "Create":
		if !bookName(s.name) {
			return api.ErrName
		}
		if there {
			return api.ErrThere
		}
		b.files = append(b.files, []string{""})
		return b.changed(func(m map[string]int) { m[s.name] = len(b.files) - 1 })
	case "SyncDir":
		b.names = []map[string]int{b.now()}
		return api.OK
	}
	if !there {
		return api.ErrNone
	}
	text := last(b.files[number])
	switch s.op {
	case "Append":
		if b.used()+len(s.to) > b.room {
			return api.ErrFull
		}
		if b.failsNow() {
			return api.ErrIO
		}
		for i := range len(s.to) {
			b.files[number] = append(b.files[number], text+s.to[:i+1])
		}
	case "Cut":
		if s.n < 0 || s.n > len(text) {
			return api.ErrArg
		}
		b.files[number] = append(b.files[number], text[:s.n])
	case "Sync":
		if b.failsNow() {
			return api.ErrIO
		}
		b.files[number] = []string{text}
	case "Rename":
		if !bookName(s.to) {
			return api.ErrName
		}
		return b.changed(func(m map[string]int) {
			delete(m, s.name)
			m[s.to] = number
		})
	case "Remove":
		return b.changed(func(m map[string]int) { delete(m, s.name) })
	}
	return api.OK
}

func do(d *disk.Disk, s step) api.Errno {
	switch s.op {
	case "Create":
		return d.Create(s.name)
	case "Append":
		return d.Append(s.name, s.to)
	case "Cut":
		return d.Cut(s.name, s.n)
	case "Sync":
		return d.Sync(s.name)
	case "Rename":
		return d.Rename(s.name, s.to)
	case "Remove":
		return d.Remove(s.name)
	}
	return d.SyncDir()
}

func (b *book) crash(k disk.Keep) *book {
	out := newBook(b.room)
	names := b.names[min(max(k.Dir, 0), len(b.names)-1)]
	for number, l := range b.files {
		keep := 0
		if number < len(k.Files) {
			keep = min(max(k.Files[number], 0), len(l)-1)
		}
		for name, of := range names {
			if of == number {
				out.files = append(out.files, []string{l[keep]})
				out.now()[name] = len(out.files) - 1
			}
		}
	}
	return out
}

func (b *book) said() string {
	var out strings.Builder
	for _, name := range slices.Sorted(maps.Keys(b.now())) {
		fmt.Fprintf(&out, "%s=%s ", name, last(b.files[b.now()[name]]))
	}
	return out.String()
}

// same holds a disk against its book, in all that may be asked of it without a change.
func same(t *testing.T, b *book, d *disk.Disk) {
	t.Helper()
	if d.Used() != b.used() || d.Ops() != b.ops {
		t.Fatalf("Used %d, Ops %d, not %d, %d", d.Used(), d.Ops(), b.used(), b.ops)
	}
	if got, want := d.List(), slices.Sorted(maps.Keys(b.now())); !slices.Equal(got, want) {
		t.Fatalf("List %q, not %q", got, want)
	}
	for _, name := range []string{"", "a", "b", "c", "d", "~", "a b"} {
		number, there := b.now()[name]
		want, wrong := "", api.ErrNone
		if there {
			want, wrong = last(b.files[number]), api.OK
		}
		if b.stop == 0 {
			want, wrong = "", api.ErrDead
		}
		if got, e := d.Read(name); got != want || e != wrong {
			t.Fatalf("Read(%q): %q, %v, not %q, %v", name, got, e, want, wrong)
		}
	}
}

// sameCrash holds what is left against what is left by the book, and answers both.
func sameCrash(t *testing.T, b *book, d *disk.Disk, k disk.Keep) (*book, *disk.Disk) {
	t.Helper()
	c, other := b.crash(k), d.Crash(k)
	if said(other) != c.said() {
		t.Fatalf("Crash(%v): %s, not %s", k, said(other), c.said())
	}
	same(t, c, other)
	return c, other
}

// everyKeep are all fronts of the names with all fronts of one file, and of all files at once.
func everyKeep(b *book) []disk.Keep {
	var out []disk.Keep
	for dir := -1; dir <= len(b.names); dir++ {
		out = append(out, disk.Keep{Dir: dir})
		for number, l := range b.files {
			for keep := -1; keep <= len(l); keep++ {
				files := make([]int, number+1)
				files[number] = keep
				out = append(out, disk.Keep{Dir: dir, Files: files})
			}
		}
		most := 0
		for _, l := range b.files {
			most = max(most, len(l))
		}
		for keep := range most + 1 {
			out = append(out, disk.Keep{Dir: dir, Files: slices.Repeat([]int{keep}, len(b.files)+2)})
		}
	}
	return append(out, disk.Keep{Dir: math.MaxInt, Files: slices.Repeat([]int{math.MaxInt}, len(b.files))},
		disk.Keep{Dir: math.MinInt, Files: slices.Repeat([]int{math.MinInt}, len(b.files))})
}

// chosen is what the next step, Fail or Stop is made of: a number from 0 on that is below n.
type chosen func(n int) int

func aStep(pick chosen) step {
	ops := []string{"Create", "Create", "Append", "Append", "Append", "Append", "Cut", "Cut", "Sync", "Rename", "Rename", "Remove", "SyncDir"}
	names := []string{"a", "b", "c", "d", "a", "b", "c", "a", "b", "~", "", "a b"}
	s := step{op: ops[pick(len(ops))], name: names[pick(len(names))], n: pick(7) - 1}
	switch s.op {
	case "Append":
		s.to = "0123456789"[:pick(6)]
	case "Rename":
		s.to = names[pick(len(names))]
	}
	return s
}

// walk does steps of a disk and of its book, and goes on with what a crash left.
func walk(t *testing.T, pick chosen, steps int, every bool) {
	t.Helper()
	room := pick(40) - 1
	b, d := newBook(room), disk.New(room)
	var done []string
	t.Cleanup(func() {
		if t.Failed() {
			t.Log("room", room, done)
		}
	})
	for range steps {
		switch pick(16) {
		case 0:
			b.fail = pick(5) - 1
			d.Fail(b.fail)
			done = append(done, fmt.Sprint("Fail ", b.fail))
		case 1:
			b.stop = pick(9) - 3
			d.Stop(b.stop)
			done = append(done, fmt.Sprint("Stop ", b.stop))
		case 2:
			k := disk.Keep{Dir: pick(8) - 1}
			for range pick(6) {
				k.Files = append(k.Files, pick(9)-1)
			}
			done = append(done, fmt.Sprint("Crash ", k))
			c, other := sameCrash(t, b, d, k)
			same(t, b, d)
			if pick(3) == 0 {
				b, d = c, other
			}
		default:
			s := aStep(pick)
			done = append(done, s.String())
			if got, want := do(d, s), b.do(s); got != want {
				t.Fatalf("%s: %v, not %v", s, got, want)
			}
		}
		same(t, b, d)
		if every {
			for _, k := range everyKeep(b) {
				sameCrash(t, b, d, k)
			}
		}
	}
}

func TestByTheBook(t *testing.T) {
	for seed := range 400 {
		r := rand.New(rand.NewSource(int64(seed)))
		walk(t, r.Intn, 150, false)
	}
}

func TestByTheBookWithEveryKeep(t *testing.T) {
	for seed := range 25 {
		r := rand.New(rand.NewSource(int64(seed) + 1000))
		walk(t, r.Intn, 40, true)
	}
}

func FuzzDisk(f *testing.F) {
	f.Add([]byte("\x30\x05\x00\x00\x00\x05\x02\x00\x04\x02\x05\x03"))
	f.Fuzz(func(t *testing.T, by []byte) {
		at := 0
		pick := func(n int) int {
			if at == len(by) {
				return 0
			}
			at++
			return int(by[at-1]) % n
		}
		walk(t, pick, min(len(by), 200), false)
	})
}
