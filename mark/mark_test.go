package mark_test

import (
	"fmt"
	"math"
	"slices"
	"strings"
	"testing"

	"postroom/api"
	"postroom/ledger"
	"postroom/mark"
)

const most = math.MaxUint64

// said is a ledger as one line: First and Next; of each destination its name, Since, Low, Above, and its counts.
func said(l ledger.Ledger) string {
	out := fmt.Sprint(l.First, " ", l.Next)
	for _, d := range l.Dests {
		out += fmt.Sprintf("; %q %d %d %d %d %d %d", d.Name, d.Since, d.Low, append([]uint64{}, d.Above...), d.Acked, d.Evicted, d.Rejected)
	}
	return out
}

func isNothing(l ledger.Ledger) bool { return l.First == 0 && l.Next == 0 && len(l.Dests) == 0 }

// refused wants that bytes are no ledger's.
func refused(t *testing.T, s string) {
	t.Helper()
	if l, e := mark.Take(s); e != api.ErrForm || !isNothing(l) {
		t.Errorf("%q: %s, %v", s, said(l), e)
	}
}

// taken wants that bytes are those of a ledger.
func taken(t *testing.T, s string, l ledger.Ledger) {
	t.Helper()
	if m, e := mark.Take(s); e != api.OK || said(m) != said(l) {
		t.Errorf("%q: %s, %v, not %s", s, said(m), e, said(l))
	}
}

// put wants that a ledger's bytes are these, and that it is taken from them.
func put(t *testing.T, l ledger.Ledger, s string) {
	t.Helper()
	if got, e := mark.Put(l); e != api.OK || got != s {
		t.Errorf("%s: %q, %v, not %q", said(l), got, e, s)
	}
	taken(t, s, l)
}

func of(first, next uint64, dests ...ledger.Dest) ledger.Ledger {
	return ledger.Ledger{First: first, Next: next, Dests: dests}
}

func example() ledger.Ledger {
	return of(1, 4, ledger.Dest{Name: "a", Since: 1, Low: 1, Above: []uint64{2}, Acked: 1})
}

// two has each number of its own, but for those that must be alike.
func two() ledger.Ledger {
	return of(3, 300,
		ledger.Dest{Name: "zone", Since: 2, Low: 8, Above: []uint64{10, 150, 299}, Acked: 4, Evicted: 3, Rejected: 2},
		ledger.Dest{Name: "b", Since: 11, Low: 300, Acked: 200, Evicted: 70, Rejected: 19})
}

const bytesOfTwo = "\x03\xac\x02\x02" +
	"\x04zone\x02\x08\x04\x03\x02\x03\x02\x8c\x01\x95\x01" +
	"\x01b\x0b\xac\x02\xc8\x01\x46\x13\x00"

func four() ledger.Ledger {
	return of(1, 9,
		ledger.Dest{Name: "d", Since: 1, Low: 1, Above: []uint64{2, 3, 4, 5, 6, 7, 8}, Acked: 7},
		ledger.Dest{Name: strings.Repeat("n", 20), Since: 2, Low: 5, Above: []uint64{7}, Evicted: 4},
		ledger.Dest{Name: "_", Since: 9, Low: 9},
		ledger.Dest{Name: "a0", Since: 3, Low: 9, Rejected: 6})
}

const bytesOfFour = "\x01\x09\x04" +
	"\x01d\x01\x01\x07\x00\x00\x07\x01\x01\x01\x01\x01\x01\x01" +
	"\x14nnnnnnnnnnnnnnnnnnnn\x02\x05\x00\x04\x00\x01\x02" +
	"\x01_\x09\x09\x00\x00\x00\x00" +
	"\x02a0\x03\x09\x00\x00\x06\x00"

// far has the greatest numbers that there are, steps too; counts go round.
func far() ledger.Ledger {
	return of(most, most,
		ledger.Dest{Name: "a", Since: most, Low: most, Acked: most, Evicted: most, Rejected: 2},
		ledger.Dest{Name: "b", Since: 1, Low: most, Evicted: most - 1})
}

func wide() ledger.Ledger {
	return of(1, most,
		ledger.Dest{Name: "a", Since: 1, Low: 1, Above: []uint64{most - 1}, Rejected: 1},
		ledger.Dest{Name: "b", Since: 1, Low: 1, Above: []uint64{1 << 63, 1<<63 + 1}, Acked: most, Rejected: 3})
}

const (
	upper = "\xff\xff\xff\xff\xff\xff\xff\xff\x01"
	ones  = "\xff" + upper // the bytes of the greatest number
)

const bytesOfFar = ones + ones + "\x02" +
	"\x01a" + ones + ones + ones + ones + "\x02\x00" +
	"\x01b\x01" + ones + "\x00\xfe" + upper + "\x00\x00"

const bytesOfWide = "\x01" + ones + "\x02" +
	"\x01a\x01\x01\x00\x00\x01\x01\xfd" + upper +
	"\x01b\x01\x01" + ones + "\x00\x03\x02\xff\xff\xff\xff\xff\xff\xff\xff\x7f\x01"

type pair struct {
	l ledger.Ledger
	s string
}

// known are right ledgers of all kinds, with their bytes.
func known() []pair {
	return []pair{
		{ledger.New(), "\x01\x01\x00"},
		{of(1, 2), "\x01\x02\x00"},
		{of(127, 128), "\x7f\x80\x01\x00"},
		{of(1, most), "\x01" + ones + "\x00"},
		{example(), "\x01\x04\x01\x01a\x01\x01\x01\x00\x00\x01\x01"},
		{two(), bytesOfTwo},
		{four(), bytesOfFour},
		{far(), bytesOfFar},
		{wide(), bytesOfWide},
	}
}

func TestK1PutAndTake(t *testing.T) {
	for _, k := range known() {
		put(t, k.l, k.s)
	}
}

// TestK1EmptyLists: a list of nothing may be nil or empty.
func TestK1EmptyLists(t *testing.T) {
	put(t, ledger.Ledger{First: 1, Next: 1, Dests: []ledger.Dest{}}, "\x01\x01\x00")
	put(t, of(1, 1, ledger.Dest{Name: "a", Since: 1, Low: 1, Above: []uint64{}}), "\x01\x01\x01\x01a\x01\x01\x00\x00\x00\x00")
	put(t, of(1, 1, ledger.Dest{Name: "a", Since: 1, Low: 1}), "\x01\x01\x01\x01a\x01\x01\x00\x00\x00\x00")
}

// TestK1Order: destinations stay in their order, whatever their names are.
func TestK1Order(t *testing.T) {
	names := []string{"a", "c", "b", "_"}
	for i := range 24 {
		var l ledger.Ledger
		l.First, l.Next = 1, 1
		left := slices.Clone(names)
		s := "\x01\x01\x04"
		for k, n := range []int{i % 4, i / 4 % 3, i / 12, 0} {
			l.Dests = append(l.Dests, ledger.Dest{Name: left[n], Since: 1, Low: 1, Acked: uint64(k), Evicted: -uint64(k)})
			s += "\x01" + left[n] + "\x01\x01" + num7(uint64(k)) + num7(-uint64(k)) + "\x00\x00"
			left = slices.Delete(left, n, n+1)
		}
		put(t, l, s)
	}
}

// TestK1PutOfNoneThatIsRight: each number, each name, each list is wrong alone.
func TestK1PutOfNoneThatIsRight(t *testing.T) {
	for what, l := range wrong() {
		if s, e := mark.Put(l); s != "" || e != api.ErrArg {
			t.Errorf("%s: %s: %q, %v", what, said(l), s, e)
		}
	}
}

// wrong are ledgers that are not right, each by just one thing.
func wrong() map[string]ledger.Ledger {
	out := map[string]ledger.Ledger{"of nothing": {}}
	for what, change := range map[string]func(l *ledger.Ledger, a, b *ledger.Dest){
		"First 0":                func(l *ledger.Ledger, a, b *ledger.Dest) { l.First = 0 },
		"First above Low":        func(l *ledger.Ledger, a, b *ledger.Dest) { l.First = 9 },
		"Next below First":       func(l *ledger.Ledger, a, b *ledger.Dest) { l.Next = 2 },
		"Next 0":                 func(l *ledger.Ledger, a, b *ledger.Dest) { l.Next = 0 },
		"Next below Low":         func(l *ledger.Ledger, a, b *ledger.Dest) { l.Next = 299 },
		"a name of none":         func(l *ledger.Ledger, a, b *ledger.Dest) { a.Name = "" },
		"a name of 21":           func(l *ledger.Ledger, a, b *ledger.Dest) { b.Name = strings.Repeat("n", 21) },
		"a name in capitals":     func(l *ledger.Ledger, a, b *ledger.Dest) { b.Name = "B" },
		"a name of a digit":      func(l *ledger.Ledger, a, b *ledger.Dest) { a.Name = "1" },
		"a name of zero":         func(l *ledger.Ledger, a, b *ledger.Dest) { a.Name = "\x00" },
		"a name twice":           func(l *ledger.Ledger, a, b *ledger.Dest) { b.Name = a.Name },
		"Since 0":                func(l *ledger.Ledger, a, b *ledger.Dest) { a.Since = 0; a.Acked += 2 },
		"Since one less":         func(l *ledger.Ledger, a, b *ledger.Dest) { a.Since-- },
		"Since one more":         func(l *ledger.Ledger, a, b *ledger.Dest) { b.Since++ },
		"Since above Low":        func(l *ledger.Ledger, a, b *ledger.Dest) { b.Since = 301; b.Acked, b.Evicted, b.Rejected = 0, 0, most },
		"Low one less":           func(l *ledger.Ledger, a, b *ledger.Dest) { a.Low-- },
		"Low one more":           func(l *ledger.Ledger, a, b *ledger.Dest) { a.Low++ },
		"Low above Next":         func(l *ledger.Ledger, a, b *ledger.Dest) { b.Low++; b.Acked++ },
		"Low below First":        func(l *ledger.Ledger, a, b *ledger.Dest) { a.Low = 2; a.Acked, a.Evicted, a.Rejected = 3, 0, 0 },
		"Above at Low":           func(l *ledger.Ledger, a, b *ledger.Dest) { a.Above[0] = 8 },
		"Above below Low":        func(l *ledger.Ledger, a, b *ledger.Dest) { a.Above[0] = 7 },
		"Above 0":                func(l *ledger.Ledger, a, b *ledger.Dest) { a.Above[0] = 0 },
		"Above twice":            func(l *ledger.Ledger, a, b *ledger.Dest) { a.Above[1] = 10 },
		"Above falling":          func(l *ledger.Ledger, a, b *ledger.Dest) { a.Above[1] = 9 },
		"Above twice at its end": func(l *ledger.Ledger, a, b *ledger.Dest) { a.Above[1] = 299 },
		"Above at Next":          func(l *ledger.Ledger, a, b *ledger.Dest) { a.Above[2] = 300 },
		"Above the greatest":     func(l *ledger.Ledger, a, b *ledger.Dest) { a.Above[2] = most },
		"one of Above less":      func(l *ledger.Ledger, a, b *ledger.Dest) { a.Above = a.Above[:2] },
		"one of Above more":      func(l *ledger.Ledger, a, b *ledger.Dest) { a.Above = []uint64{10, 11, 150, 299} },
		"none of Above":          func(l *ledger.Ledger, a, b *ledger.Dest) { a.Above = nil },
		"Acked one less":         func(l *ledger.Ledger, a, b *ledger.Dest) { a.Acked-- },
		"Acked one more":         func(l *ledger.Ledger, a, b *ledger.Dest) { b.Acked++ },
		"Evicted one less":       func(l *ledger.Ledger, a, b *ledger.Dest) { b.Evicted-- },
		"Evicted one more":       func(l *ledger.Ledger, a, b *ledger.Dest) { a.Evicted++ },
		"Rejected one less":      func(l *ledger.Ledger, a, b *ledger.Dest) { a.Rejected-- },
		"Rejected one more":      func(l *ledger.Ledger, a, b *ledger.Dest) { b.Rejected++ },
		"Acked the greatest":     func(l *ledger.Ledger, a, b *ledger.Dest) { a.Acked = most },
		"five": func(l *ledger.Ledger, a, b *ledger.Dest) {
			for _, name := range []string{"c", "d", "e"} {
				l.Dests = append(l.Dests, ledger.Dest{Name: name, Since: 300, Low: 300})
			}
		},
	} {
		l := two()
		change(&l, &l.Dests[0], &l.Dests[1])
		out[what] = l
	}
	for what, first := range map[string]uint64{"0": 0, "above Next": 8, "the greatest": most} {
		out["no destinations, First "+what] = of(first, 7)
	}
	return out
}

// TestK1TakeOfNoneThatIsRight: the same, as bytes; Above that falls stands there by steps that go round.
func TestK1TakeOfNoneThatIsRight(t *testing.T) {
	for _, l := range wrong() {
		refused(t, byWords(l))
	}
}

func TestK1Cut(t *testing.T) {
	for _, k := range known() {
		for i := range len(k.s) {
			refused(t, k.s[:i])
		}
		for i := 1; i < len(k.s); i++ {
			takenByWords(t, k.s[i:])
		}
		for b := range 256 {
			refused(t, k.s+string([]byte{byte(b)}))
		}
		refused(t, k.s+k.s)
		refused(t, "\x00"+k.s)
	}
	refused(t, "")
}

// TestK1OtherBytes: a byte is another one, or gone, or more, or changes places, wherever it is.
func TestK1OtherBytes(t *testing.T) {
	for _, k := range known() {
		for i := range len(k.s) {
			takenByWords(t, k.s[:i]+k.s[i+1:])
			for b := range 256 {
				takenByWords(t, k.s[:i]+string([]byte{byte(b)})+k.s[i+1:])
				takenByWords(t, k.s[:i]+string([]byte{byte(b)})+k.s[i:])
			}
			for j := range i {
				s := []byte(k.s)
				s[i], s[j] = s[j], s[i]
				takenByWords(t, string(s))
			}
		}
	}
}

// TestK1OtherForms: each number, counts and a name's length too, has just one form.
func TestK1OtherForms(t *testing.T) {
	for _, k := range known() {
		parts := partsOf(k.l)
		if together(parts) != k.s {
			t.Fatalf("%q of %s", together(parts), said(k.l))
		}
		for i, p := range parts {
			if p.isName {
				continue
			}
			ahead, behind := together(parts[:i]), together(parts[i+1:])
			last := len(p.bytes) - 1
			open := p.bytes[:last] + string([]byte{p.bytes[last] | 128}) // another byte must be behind it
			for _, bad := range []string{open + "\x00", open + "\x80\x00", strings.Repeat("\xff", 9) + "\x02", strings.Repeat("\xff", 10) + "\x01", strings.Repeat("\x80", 9) + "\x00", strings.Repeat("\xff", 20)} {
				refused(t, ahead+bad+behind)
			}
			refused(t, ahead+open)
			refused(t, ahead+"\x80")
			takenByWords(t, ahead+open+behind)
			takenByWords(t, ahead+behind)
		}
	}
}

func TestK1NamesOfOtherForms(t *testing.T) {
	const ahead, behind = "\x01\x01\x01", "\x01\x01\x00\x00\x00\x00"
	name := func(s string) string { return ahead + num7(uint64(len(s))) + s + behind }
	for _, good := range []string{"a", "_", "z9", strings.Repeat("n", 20)} {
		taken(t, name(good), of(1, 1, ledger.Dest{Name: good, Since: 1, Low: 1}))
	}
	for _, bad := range []string{"", "A", "9", "a-", "a\x00", "\x00", "é", strings.Repeat("n", 21), strings.Repeat("n", 127), strings.Repeat("n", 300)} {
		refused(t, name(bad))
	}
	for _, length := range []uint64{0, 2, 3, 8, 9, 20, 21, 127, 128, 1 << 31, 1 << 32, 1<<63 - 1, 1 << 63, most - 1, most} {
		refused(t, ahead+num7(length)+"a"+behind)
	}
	refused(t, ahead+"\x81\x00a"+behind)
}

// TestK1Counts: how many there are is told by bytes that may lie.
func TestK1Counts(t *testing.T) {
	const dest = "\x01\x01\x00\x00\x00"
	ahead := "\x01\x02"
	for many := range 8 {
		s, l := ahead+num7(uint64(many)), of(1, 2)
		for i := range many {
			name := string(rune('a' + i))
			s += "\x01" + name + dest + "\x00"
			l.Dests = append(l.Dests, ledger.Dest{Name: name, Since: 1, Low: 1})
		}
		if many <= 4 {
			taken(t, s, l)
		} else {
			refused(t, s)
		}
	}
	for _, many := range []uint64{2, 3, 5, 6, 127, 128, 1 << 31, 1 << 32, 1<<32 + 1, 1<<63 - 1, 1 << 63, 1<<63 + 1, most - 1, most} {
		refused(t, ahead+num7(many))
		refused(t, ahead+num7(many)+"\x01a"+dest+"\x00")
		refused(t, "\x01\x09\x01\x01a\x01\x01\x01\x00\x00"+num7(many))
		refused(t, "\x01\x09\x01\x01a\x01\x01\x01\x00\x00"+num7(many)+"\x01")
		refused(t, "\x01\x09\x02\x01a\x01\x01\x01\x00\x00"+num7(many)+"\x01\x01b\x01\x01\x00\x00\x00\x00")
		refused(t, "\x01\x09\x01\x01a\x01\x01"+num7(many)+"\x00\x00"+num7(many)+strings.Repeat("\x00", 5000))
	}
}

// TestK1Steps: a step of 0, and those that go beyond what may be, or round, to where it might be again.
func TestK1Steps(t *testing.T) {
	at := func(next, low uint64, steps ...uint64) string {
		s := "\x01" + num7(next) + "\x01\x01a\x01" + num7(low) + num7(low-1+uint64(len(steps))) + "\x00\x00" + num7(uint64(len(steps)))
		for _, n := range steps {
			s += num7(n)
		}
		return s
	}
	with := func(next, low uint64, above ...uint64) ledger.Ledger {
		return of(1, next, ledger.Dest{Name: "a", Since: 1, Low: low, Above: above, Acked: low - 1 + uint64(len(above))})
	}
	taken(t, at(9, 3, 1), with(9, 3, 4))
	taken(t, at(9, 3, 5), with(9, 3, 8))
	taken(t, at(9, 3, 1, 1, 1, 1, 1), with(9, 3, 4, 5, 6, 7, 8))
	taken(t, at(9, 3, 2, 3), with(9, 3, 5, 8))
	taken(t, at(most, 3, most-4), with(most, 3, most-1))
	taken(t, at(most, 3, most-5, 1), with(most, 3, most-2, most-1))
	taken(t, at(most, most-2, 1), with(most, most-2, most-1))
	for i, s := range []string{
		at(9, 3, 0), at(9, 3, 0, 1), at(9, 3, 1, 0), at(9, 3, 1, 0, 1), // 0
		at(9, 3, 6), at(9, 3, 7), at(9, 3, 1, 5), at(9, 3, 1, 1, 1, 1, 1, 1), at(9, 9, 1), // Next, and beyond
		at(9, 3, most), at(9, 3, most-1), at(9, 3, most-2), at(9, 3, most-3), // round, to 2, 1, 0, and not quite
		at(9, 3, 5, most), at(9, 3, 5, most-2), at(9, 3, 1<<63, 1<<63+1), at(9, 3, most, 2), at(9, 3, most, 1, 2), // round, and on
		at(most, 3, most-3), at(most, 3, most-4, 1), at(most, 3, most-4, 2), at(most, 3, most-4, most), at(most, most-2, 2), at(most, most-1, 1), at(most, most, 1),
	} {
		t.Log(i)
		refused(t, s)
	}
}

// TestK1Big: many numbers are put and taken in one go.
func TestK1Big(t *testing.T) {
	d := ledger.Dest{Name: "a", Since: 1, Low: 1}
	for n := range uint64(200000) {
		d.Above = append(d.Above, 2+2*n+n/100)
	}
	d.Acked = uint64(len(d.Above))
	l := of(1, 1<<40, d)
	s, e := mark.Put(l)
	if e != api.OK || s != byWords(l) {
		t.Fatal(len(s), e)
	}
	m, e := mark.Take(s)
	if e != api.OK || len(m.Dests) != 1 || !slices.Equal(m.Dests[0].Above, d.Above) {
		t.Fatal(e)
	}
	refused(t, s[:len(s)-1])
	refused(t, s+"\x01")
}
