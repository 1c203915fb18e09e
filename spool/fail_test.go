package spool_test

import (
	"fmt"
	"math/rand"
	"strings"
	"testing"

	"postroom/api"
	"postroom/disk"
	"postroom/spool"
)

const enough = 5000 // bytes of room: all that a trial needs

// A trial is a word behind others, how many operations it does whose errors are told, and how many of these
// may tell ErrIO.
type trial struct {
	c           spool.Config
	start, word string
	ops, fails  int
}

func trials() []trial {
	crowd := "Ja =x*1990 =a =b F4 =c" // the eviction behind the last one fails
	return []trial{
		{pairs, "Ja =a", "=b", 2, 2},
		{pairs, "Ja =a", "+b", 1, 1},
		{wide, "Ja =a +b", "=c", 3, 3},
		{pairs, "Ja =a +b", "=c", 5, 3}, // three of them Roll's
		{pairs, "Ja =a +b", "+c", 4, 2},
		{each, "Ja =x*1990 =a =b", "=c", 5, 3}, // what is behind is not told
		{each, "Ja =x*1990 =a =b", "+c", 4, 2},
		{each, crowd, "=d", 13, 5}, // eight of them of an eviction
		{each, crowd, "+d", 12, 4},
		{each, crowd, "C", 0, 0},
		{pairs, "Ja =a +b", "S", 1, 1},
		{pairs, "Ja =a", "S", 0, 0},
		{pairs, "Ja =a +b", "Jb", 7, 3},
		{pairs, "Ja =a", "Jb", 6, 2},
		{pairs, "Ja =a +b", "Aa1", 0, 0},
		{pairs, "Ja =a +b", "Ra1", 6, 2},
		{pairs, "Ja =a +b", "La", 6, 2},
		{pairs, "Ja =a +b Aa1", "M", 6, 2},
		{each, "Ja =a =b =c Aa1 Aa2", "C", 16, 4},
		{each, "=a =b +c", "C", 16, 4},
	}
}

// started is a watch behind the start of a trial; what is not synced stays so.
func (r trial) started(t *testing.T) *watch {
	w := newWatch(t, r.c, enough)
	w.steps(r.start)
	w.fails(0)
	return w
}

func TestEachOperationWithoutPower(t *testing.T) {
	for _, r := range trials() {
		for n := range r.ops + 12 {
			w := r.started(t)
			w.power(n)
			if e := w.call(r.word); (e == api.OK) != (n >= r.ops) || e != api.OK && e != api.ErrDead {
				w.fail(e)
			}
			w.leaves(func(c *watch) { right(t, c.open()) })
		}
	}
}

func TestEachOperationThatFails(t *testing.T) {
	for _, r := range trials() {
		for n := range r.fails + 4 {
			w := r.started(t)
			w.fails(n)
			if e := w.call(r.word); (e == api.OK) != (n == 0 || n > r.fails) || e != api.OK && e != api.ErrIO {
				w.fail(e)
			}
			w.leaves(func(c *watch) { right(t, c.open()) })
			w.fails(0)
			if n > 0 && n <= r.fails { // it is done then
				if e := w.call(r.word); e != api.OK {
					w.fail(e)
				}
				w.leaves(func(c *watch) { right(t, c.open()) })
			}
		}
	}
}

func TestEachOperationWithoutRoom(t *testing.T) {
	for _, r := range trials() {
		told := map[api.Errno]int{}
		for room := range 40 {
			w := r.started(t)
			for _, d := range []*disk.Disk{w.d, w.twin} {
				put(t, d, "full", strings.Repeat("x", enough-d.Used()-room))
				right(t, d.Sync("full"), d.SyncDir())
			}
			e := w.call(r.word)
			told[e]++
			w.leaves(func(c *watch) { right(t, c.open()) })
			right(t, w.d.Remove("full"), w.twin.Remove("full"))
			if e != api.OK {
				if e := w.call(r.word); e != api.OK {
					w.fail(e)
				}
			}
		}
		if told[api.OK]+told[api.ErrFull] != 40 || told[api.OK] == 0 || r.fails > 1 && told[api.ErrFull] == 0 {
			t.Errorf("%v: %v", r, told)
		}
	}
}

// TestBehindErrDeadNothingPanics: whatever such a spool is asked, with power again or without.
func TestBehindErrDeadNothingPanics(t *testing.T) {
	for seed := range 200 {
		r := rand.New(rand.NewSource(int64(seed)))
		d := disk.New(roomy)
		s := open(t, d, config(r.Intn))
		for range 100 {
			d.Stop(r.Intn(12) - 1)
			d.Fail(r.Intn(12))
			act(s, word(r.Intn, account{first: 1, next: 20}))
			s.Get(uint64(r.Intn(20)))
			s.Ledger()
			s.Durable()
			s.Bytes()
		}
	}
}

// TestTheSameAgain: what is told hangs on nothing else.
func TestTheSameAgain(t *testing.T) {
	tell := func(seed int64) string {
		r := rand.New(rand.NewSource(seed))
		d := disk.New(roomy)
		s := open(t, d, config(r.Intn))
		var out strings.Builder
		for range 60 {
			seq, e := act(s, word(r.Intn, accountOf(s.Ledger())))
			fmt.Fprint(&out, seq, e, said(s), "\n")
		}
		return out.String() + files(d)
	}
	for seed := range int64(20) {
		if a, b := tell(seed), tell(seed); a != b {
			t.Fatalf("it told\n%s, and then\n%s", a, b)
		}
	}
}
