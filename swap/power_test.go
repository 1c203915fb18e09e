package swap_test

import (
	"fmt"
	"math/rand"
	"slices"
	"strings"
	"testing"

	"postroom/api"
	"postroom/disk"
	"postroom/swap"
)

// textOf is a file's text, or that there is none.
func textOf(t *testing.T, d *disk.Disk, name string) string {
	t.Helper()
	s, e := d.Read(name)
	if e == api.ErrNone {
		return "none"
	}
	if e != api.OK {
		t.Fatal(e)
	}
	return s
}

// beside makes files whose names are near to ck, one of them an other that nobody writes now.
func beside(t *testing.T, d *disk.Disk) string {
	t.Helper()
	put(t, d, "c", "1", true)
	put(t, d, "ckk", "22", true)
	put(t, d, "zz~", "333", true)
	return "c=1 ckk=22 zz~=333 "
}

// others is what there is, without ck and its other.
func others(d *disk.Disk) string {
	var out strings.Builder
	for _, part := range strings.SplitAfter(said(d), " ") {
		if !strings.HasPrefix(part, "ck=") && !strings.HasPrefix(part, "ck~=") {
			out.WriteString(part)
		}
	}
	return out.String()
}

func TestH3BehindOKTheFileStays(t *testing.T) {
	for what, start := range starts(t, roomy) {
		t.Run(what, func(t *testing.T) {
			for _, s := range []string{"", "x", "news"} {
				d := start()
				right(t, swap.Write(d, "ck", s))
				for _, k := range keeps(6, 4, 4, 4, 4) {
					if got := textOf(t, d.Crash(k), "ck"); got != s {
						t.Fatalf("%v: %q, not %q", k, got, s)
					}
				}
			}
		})
	}
}

func TestH3BehindAnErrorTheFileIsWhatItWas(t *testing.T) {
	for _, was := range []string{"none", "", "old"} {
		for _, f := range faults {
			d := disk.New(f.room + 6)
			near := beside(t, d)
			moments := []int{0, 0, 0}
			if was != "none" {
				right(t, swap.Write(d, "ck", was))
				moments = append(moments, len(was))
			}
			for range 3 {
				d.Fail(f.fail)
				if e := swap.Write(d, "ck", "123456789"); e != f.tells {
					t.Fatal(f.what, e)
				}
				if got := textOf(t, d, "ck"); got != was {
					t.Fatalf("%s: %q, not %q", f.what, got, was)
				}
				moments = append(moments, 3)
				for _, k := range keeps(8, moments...) {
					c := d.Crash(k)
					if got := textOf(t, c, "ck"); got != was || others(c) != near {
						t.Fatalf("%s, %v: %q", f.what, k, said(c))
					}
				}
			}
		}
	}
}

func TestH3WheneverThePowerGoes(t *testing.T) {
	texts := []string{"", "old", "o", "older", "", "ol"}
	for n := range 6*len(texts) + 2 {
		d := disk.New(roomy)
		near := beside(t, d)
		d.Stop(n)
		was, now := "none", "none"
		e := api.OK
		moments := []int{0, 0, 0} // of the files beside it, and then of each Write's
		for _, s := range texts {
			was, now = now, s
			moments = append(moments, len(s))
			if e = swap.Write(d, "ck", s); e != api.OK {
				break
			}
			was = now
		}
		if (e == api.OK) != (n >= 6*len(texts)) || e != api.OK && e != api.ErrDead {
			t.Fatalf("power for %d operations: %v", n, e)
		}
		seen := map[string]bool{}
		for _, k := range keeps(4, moments...) {
			c := d.Crash(k)
			got := textOf(t, c, "ck")
			seen[got] = true
			if got != was && got != now || others(c) != near {
				t.Fatalf("power for %d operations, %v: %q, where it was %q, or %q", n, k, said(c), was, now)
			}
			right(t, swap.Clean(c))
			if textOf(t, c, "ck") != got || slices.Contains(c.List(), "ck~") || slices.Contains(c.List(), "zz~") {
				t.Fatalf("power for %d operations, %v: %q behind Clean", n, k, said(c))
			}
		}
		if n%6 < 5 && seen[now] && now != was { // it is not ahead of the Rename
			t.Fatalf("power for %d operations: %q is there", n, now)
		}
		if n%6 == 5 && (!seen[now] || !seen[was]) {
			t.Fatalf("power for %d operations: just %v", n, seen)
		}
	}
}

// again goes on with each that the power left, once for each that is not like one ahead.
func again(t *testing.T, d *disk.Disk, texts []string, near string, seen map[string]bool) {
	t.Helper()
	key := fmt.Sprint(len(texts), said(d))
	if len(texts) == 0 || seen[key] {
		return
	}
	seen[key] = true
	was := textOf(t, d, "ck")
	moments := make([]int, len(d.List())+1) // just the file that is created now has any
	moments[len(d.List())] = len(texts[0])
	for n := range 8 {
		for _, fail := range []int{0, 1, 2} {
			c := d.Crash(disk.Keep{}) // all is synced here: a copy
			c.Stop(n)
			c.Fail(fail)
			e := swap.Write(c, "ck", texts[0])
			for _, k := range keeps(4, moments...) {
				left := c.Crash(k)
				got := textOf(t, left, "ck")
				fits := got == was || got == texts[0] && e == api.ErrDead
				if e == api.OK {
					fits = got == texts[0]
				}
				if !fits || others(left) != near {
					t.Fatalf("%q, power for %d operations, Fail(%d): %v; %v leaves %q", said(d), n, fail, e, k, said(left))
				}
				again(t, left, texts[1:], near, seen)
			}
		}
	}
}

func TestH3ThePowerGoesAgainAndAgain(t *testing.T) {
	d := disk.New(roomy)
	put(t, d, "c", "1", true)
	put(t, d, "zz~", "2", true)
	seen := map[string]bool{}
	again(t, d, []string{"abc", "x", "", "ab"}, "c=1 zz~=2 ", seen)
	if len(seen) < 20 {
		t.Error("it tried too little:", len(seen))
	}
}

// A watch is a disk, its twin that is worked by hand, and what each file must be.
type watch struct {
	t         *testing.T
	d, twin   *disk.Disk
	must, may map[string]string // may: where a Write told ErrDead, what else it may be
}

func (w *watch) write(name, s string) {
	e, want := swap.Write(w.d, name, s), writeByHand(w.twin, name, s)
	if e != want {
		w.t.Fatalf("Write(%s, %q): %v, not %v", name, s, e, want)
	}
	switch e {
	case api.OK:
		w.must[name] = s
	case api.ErrDead:
		w.may[name] = s
	}
}

func (w *watch) clean() {
	if e, want := swap.Clean(w.d), cleanByHand(w.twin); e != want {
		w.t.Fatalf("Clean: %v, not %v", e, want)
	}
}

// crash goes on with what is left, whose files must be, or may be, what they are.
func (w *watch) crash(k disk.Keep) {
	w.d, w.twin = w.d.Crash(k), w.twin.Crash(k)
	for _, name := range []string{"a", "b", "ck"} {
		got := textOf(w.t, w.d, name)
		must, there := w.must[name]
		if !there {
			must = "none"
		}
		may, open := w.may[name]
		if got != must && !(open && got == may) {
			w.t.Fatalf("%v: %s is %q, where it was %q, or %q", k, name, got, must, may)
		}
		if got != "none" {
			w.must[name] = got
		}
	}
	w.may = map[string]string{}
}

// walk does calls by chance, and what a disk may do in their midst.
func walk(t *testing.T, pick func(int) int, steps int) {
	room := pick(40)
	w := &watch{t: t, d: disk.New(room), twin: disk.New(room), must: map[string]string{}, may: map[string]string{}}
	for range steps {
		switch pick(8) {
		case 0:
			w.clean()
		case 1:
			n := pick(4)
			w.d.Fail(n)
			w.twin.Fail(n)
		case 2:
			n := pick(12)
			w.d.Stop(n)
			w.twin.Stop(n)
		case 3:
			k := disk.Keep{Dir: pick(8)}
			for range pick(20) {
				k.Files = append(k.Files, pick(12))
			}
			w.crash(k)
		default:
			if len(w.may) > 0 { // it has no power: what is it behind that?
				w.crash(disk.Keep{Dir: pick(8), Files: []int{pick(12), pick(12), pick(12), pick(12)}})
			}
			w.write([]string{"a", "b", "ck"}[pick(3)], "0123456789"[:pick(11)])
		}
		same(t, w.d, w.twin, nil)
	}
}

func TestByHand(t *testing.T) {
	for seed := range 300 {
		r := rand.New(rand.NewSource(int64(seed)))
		walk(t, r.Intn, 120)
	}
}

func FuzzSwap(f *testing.F) {
	f.Add([]byte("\x20\x05\x02\x04\x02\x05\x05\x02\x07\x03\x03"))
	f.Fuzz(func(t *testing.T, by []byte) {
		at := 0
		pick := func(n int) int {
			if at == len(by) {
				return 0
			}
			at++
			return int(by[at-1]) % n
		}
		walk(t, pick, min(len(by), 200))
	})
}
