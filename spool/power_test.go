package spool_test

import (
	"fmt"
	"math/rand"
	"strings"
	"testing"

	"postroom/disk"
	"postroom/frame"
	"postroom/spool"
)

// A run is what is done while all goes well, and what is done while the power may go.
type run struct {
	c           spool.Config
	start, rest string
}

func runs() []run {
	pairs, each := spool.Config{Budget: 2016, Segment: 20}, spool.Config{Budget: 2016, Segment: 1}
	return []run{
		{pairs, "", "Ja =a +b =c Aa1 M Jb =d Ra2 Aa3 Ab4 C M La =e"},
		{pairs, "", "+a Ja +b +c Aa2 Jb M Aa2 Ra1 +d Lb S C +e"},
		{each, "Ja Jb =x*1990", "=a =b +c Aa1 =d =e Rb3 C"},
		{each, "Ja Jb =a =b =c =d Aa1 Rb2 Aa3 Aa4 Ab1", "M Jc C =e Ab4 Ab3 C Rb5"},
		{each, "Ja =a =b =c =d =e =f F4 =x*1990", "=g Aa7 +h Ra8 Jb"}, // the evictions behind the last one fail
		{pairs, "Ja =a +b", "F3 =c F2 =d +e F2 Jb =f F1 Ra1 F2 M Aa2"},
	}
}

// started is a watch behind the start of a run: all is synced.
func (r run) started(t *testing.T) *watch {
	w := newWatch(t, r.c, roomy)
	if r.start != "" {
		w.steps(r.start + " S")
	}
	return w
}

func TestL6WheneverThePowerGoes(t *testing.T) {
	const most = 120
	for _, r := range runs() {
		seen := 0
		for n := range most {
			w := r.started(t)
			w.power(n)
			dead := w.steps(r.rest)
			w.leaves(func(c *watch) {
				seen++
				right(t, c.open())
			})
			if !dead {
				break
			}
			if n == most-1 {
				t.Fatal(r, " needs more power")
			}
		}
		if seen < 100 {
			t.Error(r, "was tried too little:", seen)
		}
	}
}

func TestL6ThePowerGoesAndAnOperationFails(t *testing.T) {
	for _, r := range runs() {
		for fail := range 8 {
			for n := range 30 {
				w := r.started(t)
				w.power(n)
				w.fails(fail)
				dead := w.steps(r.rest)
				w.leaves(func(c *watch) { right(t, c.open()) })
				if !dead {
					break
				}
			}
		}
	}
}

func TestL6ThePowerGoesAgain(t *testing.T) {
	for _, r := range runs() {
		t.Run("", func(t *testing.T) {
			t.Parallel()
			seen := map[string]bool{}
			for n := range 100 {
				w := r.started(t)
				w.power(n)
				dead := w.steps(r.rest)
				w.leaves(func(c *watch) {
					key := fmt.Sprint(outline(c.d), c.durable, c.marks)
					if !seen[key] {
						seen[key] = true
						c.again()
					}
				})
				if !dead {
					break
				}
			}
			if len(seen) < 10 {
				t.Error(r, "was tried too little:", len(seen))
			}
		})
	}
}

// outline is all files of a disk, but that of what Open takes away just that it is there is told.
func outline(d *disk.Disk) string {
	var out strings.Builder
	for _, name := range d.List() {
		text, _ := d.Read(name)
		if name[0] == 's' {
			_, whole := frame.Scan(text)
			text = fmt.Sprint(text[:whole], len(text) > whole)
		}
		if name == "ck~" {
			text = ""
		}
		out.WriteString(name + "=" + text + " ")
	}
	return out.String()
}

// again goes on with what the power left, where it goes once more.
func (w *watch) again() {
	for n := range 40 {
		c := w.on(disk.Keep{}) // all is synced here: a copy
		c.power(n)
		dead := c.steps("=y Jz Rz2 +z M C")
		c.leaves(func(last *watch) { right(w.t, last.open()) })
		if !dead {
			break
		}
	}
}

// walk does calls by chance, and what a disk may do in their midst.
func walk(t *testing.T, pick func(int) int, steps int) {
	room := roomy
	if pick(2) == 0 {
		room = 2016 + pick(2000)
	}
	w := newWatch(t, config(pick), room)
	for range steps {
		if len(w.what) > 3000 { // the end of it is enough
			w.what = w.what[2000:]
		}
		switch n := pick(32); {
		case n == 0:
			w.power(pick(20))
		case n == 1:
			w.fails(pick(6))
		case n == 2 || w.s == nil:
			w.open()
		default:
			w.call(word(pick, w.b.now))
		}
		sameDisk(t, w.what, w.d, w.twin)
		if w.b == nil && !hasPower(w.d) || w.b != nil && w.b.dead || pick(24) == 0 {
			w = w.on(keep(pick))
			w.c = config(pick)
		}
	}
}

func config(pick func(int) int) spool.Config {
	c := spool.Config{Budget: 2016 + pick(300)}
	c.Segment = 1 + pick([]int{20, 100, c.Budget}[pick(3)])
	return c
}

func keep(pick func(int) int) disk.Keep {
	k := disk.Keep{Dir: pick(6)}
	for range 1 + pick(60) {
		k.Files = append(k.Files, pick([]int{1, 30, 2020}[pick(3)]))
	}
	return k
}

// word is one that a spool may be asked, mostly one that it does.
func word(pick func(int) int, a account) string {
	name := "abcde?"[pick(6):][:1]
	if len(a.dests) > 0 && pick(4) > 0 {
		name = a.dests[pick(len(a.dests))].name
	}
	seq := fmt.Sprint(a.first - 1 + uint64(pick(int(a.next-a.first)+3)))
	switch n := pick(24); {
	case n < 2:
		return fmt.Sprint("=x*", []int{1990, 2000, 2001, 600, 126, 127, 128}[pick(7)])
	case n < 4:
		return fmt.Sprint("+y*", 12+pick(700))
	case n < 8:
		return "=" + "abcdefghij"[pick(10):]
	case n < 10:
		return "+" + "abcdefghij"[pick(10):]
	case n < 14:
		return "A" + name + seq
	case n < 17:
		return "R" + name + seq
	case n < 19:
		return "J" + name
	case n < 20:
		return "L" + name
	default:
		return []string{"S", "M", "C", "C"}[n-20]
	}
}

func TestByHand(t *testing.T) {
	for seed := range 300 {
		r := rand.New(rand.NewSource(int64(seed)))
		walk(t, r.Intn, 150)
	}
}

func FuzzSpool(f *testing.F) {
	f.Add([]byte("\x00\x10\x01\x05\x03\x05\x00\x12\x03\x05\x01\x02\x0f\x05\x04"))
	f.Fuzz(func(t *testing.T, by []byte) {
		at := 0
		pick := func(n int) int {
			if at == len(by) {
				return 0
			}
			at++
			return int(by[at-1]) % n
		}
		walk(t, pick, min(len(by), 200))
	})
}
