package segment_test

import (
	"fmt"
	"slices"
	"strconv"
	"strings"
	"testing"

	"postroom/api"
	"postroom/disk"
	"postroom/frame"
	"postroom/segment"
)

const roomy = 1 << 20

// A book is a log by the words alone: it has all bodies, and works its disk by hand.
type book struct {
	d       *disk.Disk
	segs    []part
	durable uint64
}

// A part is a segment with its bodies.
type part struct {
	first  uint64
	bodies []string
}

func nameOf(first uint64) string { return fmt.Sprintf("s%020d", first) }

func (p part) name() string { return nameOf(p.first) }

func (p part) next() uint64 { return p.first + uint64(len(p.bodies)) }

// bytes are those of its first bodies, so many as n tells.
func (p part) bytes(n int) string {
	var out strings.Builder
	for i, body := range p.bodies[:n] {
		s, _ := frame.Put(p.first+uint64(i), body)
		out.WriteString(s)
	}
	return out.String()
}

func (p part) all() string { return p.bytes(len(p.bodies)) }

// partOf is what a file's bytes are, and how many stand behind that.
func partOf(first uint64, text string) (part, int) {
	p := part{first: first}
	l, _ := frame.Scan(text)
	for _, f := range l {
		if f.Seq != p.next() {
			break
		}
		p.bodies = append(p.bodies, f.Body)
	}
	return p, len(text) - len(p.all())
}

// isSegment is by the words: an s, and 20 digits that are no more than the greatest number.
func isSegment(name string) (uint64, bool) {
	if len(name) != 21 || name[0] != 's' || strings.Trim(name[1:], "0123456789") != "" || name[1:] > "18446744073709551615" {
		return 0, false
	}
	first := uint64(0)
	for _, c := range []byte(name[1:]) {
		first = first*10 + uint64(c-'0')
	}
	return first, true
}

func openByHand(d *disk.Disk) (*book, api.Errno) {
	b := &book{d: d}
	behind := 0
	for _, name := range d.List() {
		first, ok := isSegment(name)
		if !ok {
			continue
		}
		if len(b.segs) > 0 && (behind > 0 || b.next() != first) {
			return nil, api.ErrForm
		}
		text, e := d.Read(name)
		if e != api.OK {
			return nil, e
		}
		p, n := partOf(first, text)
		b.segs, behind = append(b.segs, p), n
	}
	e := api.OK
	switch {
	case len(b.segs) == 0:
		e = steps(func() api.Errno { return d.Create(nameOf(1)) }, d.SyncDir)
		b.segs = []part{{first: 1}}
	case behind > 0:
		a := b.active()
		e = steps(func() api.Errno { return d.Cut(a.name(), len(a.all())) }, func() api.Errno { return d.Sync(a.name()) })
	default:
		e = d.Sync(b.active().name())
	}
	b.durable = b.next()
	if e != api.OK {
		return nil, e
	}
	return b, e
}

// steps does one behind the other, up to the first error.
func steps(l ...func() api.Errno) api.Errno {
	for _, do := range l {
		if e := do(); e != api.OK {
			return e
		}
	}
	return api.OK
}

func (b *book) active() *part { return &b.segs[len(b.segs)-1] }

func (b *book) next() uint64 { return b.active().next() }

func (b *book) append(body string) (uint64, api.Errno) {
	s, e := frame.Put(b.next(), body)
	if e == api.OK {
		e = b.d.Append(b.active().name(), s)
	}
	if e != api.OK {
		return 0, e
	}
	b.active().bodies = append(b.active().bodies, body)
	return b.next() - 1, e
}

func (b *book) sync() api.Errno {
	if b.durable == b.next() {
		return api.OK
	}
	e := b.d.Sync(b.active().name())
	if e == api.OK {
		b.durable = b.next()
	}
	return e
}

func (b *book) undo() api.Errno {
	if b.durable == b.next() {
		return api.OK
	}
	a := b.active()
	many := int(b.durable - a.first)
	e := b.d.Cut(a.name(), len(a.bytes(many)))
	if e == api.OK {
		a.bodies = a.bodies[:many]
	}
	return e
}

func (b *book) roll() api.Errno {
	if len(b.active().bodies) == 0 {
		return api.OK
	}
	next := b.next()
	e := steps(
		func() api.Errno { return b.d.Sync(b.active().name()) },
		func() api.Errno { return b.d.Create(nameOf(next)) },
		b.d.SyncDir,
	)
	if e == api.OK {
		b.segs = append(b.segs, part{first: next})
		b.durable = next
	}
	return e
}

func (b *book) drop() api.Errno {
	if len(b.segs) == 1 {
		return api.ErrState
	}
	e := steps(func() api.Errno { return b.d.Remove(b.segs[0].name()) }, b.d.SyncDir)
	if e == api.OK {
		b.segs = b.segs[1:]
	}
	return e
}

// said is all that a log tells, in short.
func said(l *segment.Log) string {
	var out strings.Builder
	for _, s := range l.Segs() {
		fmt.Fprintf(&out, "%d+%d(%d)", s.First, s.Many, s.Size)
		for i := range s.Many {
			body, e := l.Get(s.First + uint64(i))
			if e != api.OK {
				body = e.Error()
			}
			out.WriteString(" " + body)
		}
		out.WriteString("; ")
	}
	fmt.Fprintf(&out, "next %d, durable %d, bytes %d", l.Next(), l.Durable(), l.Bytes())
	return out.String()
}

// said is what the log must tell; without power it tells an error for each body.
func (b *book) said() string {
	_, power := b.d.Read(b.active().name())
	var out strings.Builder
	bytes := 0
	for _, p := range b.segs {
		fmt.Fprintf(&out, "%d+%d(%d)", p.first, len(p.bodies), len(p.all()))
		for _, body := range p.bodies {
			if power != api.OK {
				body = power.Error()
			}
			out.WriteString(" " + body)
		}
		out.WriteString("; ")
		bytes += len(p.all())
	}
	fmt.Fprintf(&out, "next %d, durable %d, bytes %d", b.next(), b.durable, bytes)
	return out.String()
}

const many = 1 << 20

// files is all files of a disk, with power or without.
func files(d *disk.Disk) string {
	if _, e := d.Read(""); e == api.ErrDead {
		d = d.Crash(disk.Keep{Dir: many, Files: slices.Repeat([]int{many}, d.Ops()+len(d.List()))})
	}
	var out strings.Builder
	for _, name := range d.List() {
		text, e := d.Read(name)
		if e != api.OK {
			return e.Error()
		}
		out.WriteString(name + "=" + strconv.Quote(text) + " ")
	}
	return out.String()
}

const (
	mostChanges = 3  // of names, since a SyncDir
	mostFiles   = 6  // that a test with all fronts creates
	mostMoments = 70 // of all of these
)

// fronts are all keeps of a disk that leave something else: each front of the changes of names, with each
// front of the moments of each file, one with each other.
func fronts(d *disk.Disk) []disk.Keep {
	all := make([]int, mostFiles)
	for i := range all {
		all[i] = i
	}
	most := momentsOf(d, mostMoments, all...)
	if most == mostMoments {
		panic("there may be more moments than are looked at")
	}
	moments := make([]int, mostFiles)
	for i := range moments {
		moments[i] = momentsOf(d, most, i)
	}
	var out []disk.Keep
	now := make([]int, mostFiles)
	for {
		for dir := range mostChanges + 1 {
			out = append(out, disk.Keep{Dir: dir, Files: slices.Clone(now)})
		}
		i := 0
		for i < len(now) && now[i] == moments[i] {
			now[i] = 0
			i++
		}
		if i == len(now) {
			return out
		}
		now[i]++
	}
}

// momentsOf is how many moments of the files of these numbers make a difference, of so many as there are at most.
func momentsOf(d *disk.Disk, most int, numbers ...int) int {
	left := func(dir, n int) string {
		k := disk.Keep{Dir: dir, Files: make([]int, mostFiles)}
		for _, number := range numbers {
			k.Files[number] = n
		}
		return files(d.Crash(k))
	}
	out := 0
	for dir := range mostChanges + 1 {
		n, all := most, left(dir, most)
		for n > out && left(dir, n-1) == all {
			n--
		}
		out = max(out, n)
	}
	return out
}

// sameDisk holds a disk against one that was worked by hand: what there is, and what each keep leaves.
func sameDisk(t *testing.T, got, want *disk.Disk, l []disk.Keep) {
	t.Helper()
	if got.Ops() != want.Ops() || got.Used() != want.Used() {
		t.Fatalf("Ops %d, Used %d, not %d, %d", got.Ops(), got.Used(), want.Ops(), want.Used())
	}
	if a, b := files(got), files(want); a != b {
		t.Fatalf("there is %s, not %s", a, b)
	}
	for _, k := range l {
		if a, b := files(got.Crash(k)), files(want.Crash(k)); a != b {
			t.Fatalf("%v leaves %s, not %s", k, a, b)
		}
	}
}

func right(t *testing.T, l ...api.Errno) {
	t.Helper()
	for i, e := range l {
		if e != api.OK {
			t.Fatal(i, e)
		}
	}
}

func open(t *testing.T, d *disk.Disk) *segment.Log {
	t.Helper()
	l, e := segment.Open(d)
	if l == nil || e != api.OK {
		t.Fatal(l, e)
	}
	return l
}

// add appends bodies, whose numbers must go on.
func add(t *testing.T, l *segment.Log, bodies ...string) {
	t.Helper()
	for _, body := range bodies {
		next := l.Next()
		if seq, e := l.Append(body); seq != next || e != api.OK || l.Next() != next+1 {
			t.Fatalf("Append(%q): %d, %v, where Next was %d, and is %d", body, seq, e, next, l.Next())
		}
	}
}

func tells(t *testing.T, l *segment.Log, want string) {
	t.Helper()
	if got := said(l); got != want {
		t.Fatalf("it tells\n%q, not\n%q", got, want)
	}
}

// put makes a file in the plain way; nothing of it is synced.
func put(t *testing.T, d *disk.Disk, name, s string) {
	t.Helper()
	right(t, d.Create(name), d.Append(name, s))
}

// framed are the bytes of frames that are numbered one by one from first on.
func framed(first uint64, bodies ...string) string { return part{first, bodies}.all() }
