package segment_test

import (
	"fmt"
	"math/rand"
	"slices"
	"strings"
	"testing"

	"postroom/api"
	"postroom/disk"
	"postroom/segment"
)

// A watch is a disk with its log, a twin that is worked by hand, and what must be there when the power goes.
type watch struct {
	t       *testing.T
	done    string // what was called
	d, twin *disk.Disk
	l       *segment.Log // none, if it is not open
	b       *book
	firsts  []uint64          // those that the first segment may have
	durable uint64            // Durable, as it was told
	must    map[uint64]string // the bodies below that
	tails   [][]string        // the bodies from there on, as they stood there since
}

func newWatch(t *testing.T, room int) *watch {
	return &watch{t: t, d: disk.New(room), twin: disk.New(room), firsts: []uint64{1}, durable: 1, tails: [][]string{nil}}
}

// on is another watch, of another disk that the power left, where the same must be there.
func (w *watch) on(k disk.Keep) *watch {
	c := *w
	c.done += fmt.Sprint(" Crash", k)
	c.d, c.twin, c.l, c.b = w.d.Crash(k), w.twin.Crash(k), nil, nil
	return &c
}

func (w *watch) fail(what ...any) {
	w.t.Helper()
	w.t.Fatalf("%s: %s", w.done, fmt.Sprint(what...))
}

// settle begins anew where the active file was synced.
func (w *watch) settle() {
	w.firsts, w.durable, w.must = []uint64{w.b.segs[0].first}, w.b.durable, map[uint64]string{}
	w.tails = [][]string{nil}
	for _, p := range w.b.segs {
		for i, body := range p.bodies {
			if seq := p.first + uint64(i); seq < w.durable {
				w.must[seq] = body
			}
		}
	}
}

// open opens both, and wants of what is there all that I5 promises.
func (w *watch) open() api.Errno {
	w.t.Helper()
	w.done += " Open"
	l, e := segment.Open(w.d)
	b, want := openByHand(w.twin)
	if e != want || (l == nil) != (e != api.OK) || e == api.ErrForm { // what a power cut left is always a log
		w.fail(l, e, ", not ", want)
	}
	w.l, w.b = l, b
	if l != nil {
		w.same()
		w.promised()
		w.settle()
	}
	return e
}

// same holds the log against the book.
func (w *watch) same() {
	w.t.Helper()
	if got, want := said(w.l), w.b.said(); got != want {
		w.fail("it tells\n", got, ", not\n", want)
	}
	for _, seq := range []uint64{0, w.b.segs[0].first - 1, w.b.next(), w.b.next() + 1} {
		if got, e := w.l.Get(seq); got != "" || e != api.ErrNone {
			w.fail("Get of ", seq, ": ", got, e)
		}
	}
}

// promised is I5, of a log that was opened.
func (w *watch) promised() {
	w.t.Helper()
	if _, e := w.d.Read(""); e == api.ErrDead { // to look at it, there is power for a while
		w.d.Stop(-1)
		defer w.d.Stop(0)
	}
	first := w.l.Segs()[0].First
	if !slices.Contains(w.firsts, first) || w.l.Next() < w.durable || w.l.Durable() != w.l.Next() {
		w.fail("First may be ", w.firsts, ", and Durable was ", w.durable, ": ", said(w.l))
	}
	for seq := first; seq < w.durable; seq++ {
		if got, e := w.l.Get(seq); got != w.must[seq] || e != api.OK {
			w.fail(seq, " was durable, and ", w.must[seq], ": ", got, e)
		}
	}
	var tail []string
	for seq := w.durable; seq < w.l.Next(); seq++ {
		body, _ := w.l.Get(seq)
		tail = append(tail, body)
	}
	if !slices.ContainsFunc(w.tails, func(l []string) bool { return len(tail) <= len(l) && slices.Equal(l[:len(tail)], tail) }) {
		w.fail("behind ", w.durable, " stood ", w.tails, ", not ", tail)
	}
}

// call does one call, of both; where it tells ErrDead, nothing is promised of the log.
func (w *watch) call(c byte) api.Errno {
	w.t.Helper()
	w.done += " " + string([]byte{c})
	had := len(w.b.active().bodies) > 0
	var e, want api.Errno
	switch c {
	case 'S':
		e, want = w.l.Sync(), w.b.sync()
	case 'U':
		e, want = w.l.Undo(), w.b.undo()
	case 'R':
		e, want = w.l.Roll(), w.b.roll()
	case 'D':
		e, want = w.drop()
	default:
		e, want = w.append(bodyOf(c))
	}
	if e != want {
		w.fail(e, ", not ", want)
	}
	if e == api.OK && (w.b.durable != w.durable || c == 'R' && had) {
		w.settle()
	}
	if e != api.ErrDead {
		w.same()
	}
	return e
}

// bodyOf is a body that is not like another one's.
func bodyOf(c byte) string {
	if c >= '0' && c <= '9' {
		return strings.Repeat(string([]byte{c}), int(c-'0'))
	}
	return string([]byte{c})
}

func (w *watch) append(body string) (api.Errno, api.Errno) {
	w.t.Helper()
	seq, e := w.l.Append(body)
	number, want := w.b.append(body)
	if seq != number {
		w.fail(seq, ", not ", number)
	}
	if e == api.OK {
		a := w.b.active()
		w.tails = append(slices.Clip(w.tails), slices.Clone(a.bodies[w.durable-a.first:]))
	}
	return e, want
}

// drop in whose midst the power goes leaves the first segment, or not.
func (w *watch) drop() (api.Errno, api.Errno) {
	e, want := w.l.Drop(), w.b.drop()
	switch e {
	case api.OK:
		w.firsts = []uint64{w.b.segs[0].first}
	case api.ErrDead:
		w.firsts = []uint64{w.b.segs[0].first, w.b.segs[1].first}
	}
	return e, want
}

func (w *watch) power(n int) {
	w.done += fmt.Sprintf(" Stop(%d)", n)
	w.d.Stop(n)
	w.twin.Stop(n)
}

func (w *watch) fails(n int) {
	w.done += fmt.Sprintf(" Fail(%d)", n)
	w.d.Fail(n)
	w.twin.Fail(n)
}

// runs opens what there is, and does the calls of a script, till there is no power. Is there none?
func (w *watch) runs(script string) bool {
	w.t.Helper()
	for w.l == nil {
		if w.open() == api.ErrDead {
			return true
		}
	}
	for _, c := range []byte(script) {
		if w.call(c) == api.ErrDead {
			return true
		}
	}
	return false
}

// leaves opens all that the power may leave, once of each kind, and hands it on.
func (w *watch) leaves(then func(*watch)) {
	w.t.Helper()
	l := fronts(w.d)
	sameDisk(w.t, w.d, w.twin, l)
	seen := map[string]bool{}
	for _, k := range l {
		c := w.on(k)
		if key := files(c.d); !seen[key] {
			seen[key] = true
			then(c)
		}
	}
}

// A script has a letter for a call, S for Sync, U for Undo, R for Roll, D for Drop; others are appended.
func scripts() []string {
	return []string{
		"abScRdSe",
		"aSbUcSdUR",
		"aSbUReSfU",
		"aUbUcUSdS",
		"aRbRcDdSD",
		"aSbURUcUdRD",
		"a2Sb3U0RcDS",
		"aRDbRDcUdSRD",
		"DSURaDSbURRSD",
	}
}

func TestI5WheneverThePowerGoes(t *testing.T) {
	for _, script := range scripts() {
		seen := 0
		for _, fail := range []int{0, 1, 2, 3} {
			for n := range 40 {
				w := newWatch(t, roomy)
				w.power(n)
				w.fails(fail)
				dead := w.runs(script)
				w.leaves(func(c *watch) {
					seen++
					right(t, c.open())
				})
				if !dead {
					break
				}
				if n == 39 {
					t.Fatal(script, " needs more power")
				}
			}
		}
		if seen < 100 {
			t.Error(script, "was tried too little:", seen)
		}
	}
}

func TestI5ThePowerGoesAgain(t *testing.T) {
	seen := map[string]bool{}
	for _, script := range []string{"aSbUcRdSe", "aRbSRcDd"} {
		for n := range 16 {
			w := newWatch(t, roomy)
			w.power(n)
			w.runs(script)
			w.leaves(func(c *watch) {
				key := fmt.Sprint(files(c.d), c.firsts, c.durable, c.must, c.tails)
				if seen[key] {
					return
				}
				seen[key] = true
				for m := range 12 {
					again := c.on(disk.Keep{}) // all is synced here: a copy
					again.power(m)
					dead := again.runs("xUySzRD")
					again.leaves(func(last *watch) { right(t, last.open()) })
					if !dead {
						break
					}
				}
			})
		}
	}
	if len(seen) < 50 {
		t.Error("it tried too little:", len(seen))
	}
}

// TestI5NothingUndoneComesBackAheadOfASegment: else the log had a body twice, and was none.
func TestI5NothingUndoneComesBackAheadOfASegment(t *testing.T) {
	d := disk.New(roomy)
	l := open(t, d)
	add(t, l, "a")
	right(t, l.Sync())
	add(t, l, "b")
	right(t, l.Undo(), l.Sync())
	back := 0
	for _, k := range fronts(d) { // it may, as long as nothing is behind it
		if said(open(t, d.Crash(k))) == "1+2(14) a b; next 3, durable 3, bytes 14" {
			back++
		}
	}
	if back == 0 {
		t.Error("a Sync where Durable is Next does nothing, but did")
	}
	right(t, l.Roll())
	add(t, l, "c")
	right(t, l.Sync())
	for _, k := range fronts(d) {
		tells(t, open(t, d.Crash(k)), "1+1(7) a; 2+1(7) c; next 3, durable 3, bytes 14")
	}
}

// walk does calls by chance, and what a disk may do in their midst.
func walk(t *testing.T, pick func(int) int, steps int) {
	w := newWatch(t, pick(200))
	for range steps {
		if len(w.done) > 300 { // the end of it is enough
			w.done = w.done[200:]
		}
		e := api.OK
		switch n := pick(24); {
		case n == 0:
			w.power(pick(8))
		case n == 1:
			w.fails(pick(4))
		case n == 2 || w.l == nil:
			e = w.open()
		case n < 6:
			e = w.call('S')
		case n < 9:
			e = w.call('U')
		case n < 12:
			e = w.call('R')
		case n < 14:
			e = w.call('D')
		default:
			e = w.call("0123456789abcdef"[pick(16)])
		}
		if sameDisk(t, w.d, w.twin, nil); e == api.ErrDead || pick(16) == 0 {
			k := disk.Keep{Dir: pick(4)}
			for range 1 + pick(30) {
				k.Files = append(k.Files, pick(40))
			}
			w = w.on(k)
		}
	}
}

func TestByHand(t *testing.T) {
	for seed := range 400 {
		r := rand.New(rand.NewSource(int64(seed)))
		walk(t, r.Intn, 150)
	}
}

func FuzzLog(f *testing.F) {
	f.Add([]byte("\x90\x02\x0f\x01\x03\x0f\x02\x06\x0f\x03\x09"))
	f.Fuzz(func(t *testing.T, by []byte) {
		at := 0
		pick := func(n int) int {
			if at == len(by) {
				return 0
			}
			at++
			return int(by[at-1]) % n
		}
		walk(t, pick, min(len(by), 200))
	})
}

// TestBehindErrDeadNothingPanics: whatever such a log is asked, with power again or without.
func TestBehindErrDeadNothingPanics(t *testing.T) {
	for seed := range 300 {
		r := rand.New(rand.NewSource(int64(seed)))
		d := disk.New(roomy)
		l := open(t, d)
		for range 60 {
			d.Stop(r.Intn(5) - 1)
			switch r.Intn(5) {
			case 0:
				l.Sync()
			case 1:
				l.Undo()
			case 2:
				l.Roll()
			case 3:
				l.Drop()
			default:
				l.Append("x")
			}
			l.Get(uint64(r.Intn(20)))
			l.Bytes()
			for _, s := range l.Segs() {
				l.Get(s.First)
			}
		}
	}
}
