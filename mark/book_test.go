package mark_test

import (
	"encoding/binary"
	"math/rand"
	"slices"
	"strings"
	"testing"

	"postroom/api"
	"postroom/ledger"
	"postroom/mark"
)

func num7(n uint64) string { return string(binary.AppendUvarint(nil, n)) }

// A part of a ledger's bytes is one number's, or a name, without the number ahead of it that says how long it is.
type part struct {
	bytes  string
	isName bool
}

// partsOf are those of a ledger, right or not.
func partsOf(l ledger.Ledger) []part {
	var out []part
	add := func(numbers ...uint64) {
		for _, n := range numbers {
			out = append(out, part{bytes: num7(n)})
		}
	}
	add(l.First, l.Next, uint64(len(l.Dests)))
	for _, d := range l.Dests {
		add(uint64(len(d.Name)))
		out = append(out, part{bytes: d.Name, isName: true})
		add(d.Since, d.Low, d.Acked, d.Evicted, d.Rejected, uint64(len(d.Above)))
		ahead := d.Low
		for _, n := range d.Above {
			add(n - ahead)
			ahead = n
		}
	}
	return out
}

func together(l []part) string {
	var out strings.Builder
	for _, p := range l {
		out.WriteString(p.bytes)
	}
	return out.String()
}

func byWords(l ledger.Ledger) string { return together(partsOf(l)) }

// A reader takes numbers of whatever form; what they are is held against the bytes later on.
type reader struct {
	s   string
	bad bool
}

func (r *reader) number() uint64 {
	n, size := binary.Uvarint([]byte(r.s[:min(len(r.s), 12)]))
	if size <= 0 {
		r.bad = true
		return 0
	}
	r.s = r.s[size:]
	return n
}

// many is a number that counts what stands behind it, a byte at least each.
func (r *reader) many() int {
	n := r.number()
	if n > uint64(len(r.s)) {
		r.bad = true
		return 0
	}
	return int(n)
}

func (r *reader) text() string {
	n := r.many()
	t := r.s[:n]
	r.s = r.s[n:]
	return t
}

// found is the right ledger whose bytes these are, if there is one.
func found(s string) (ledger.Ledger, bool) {
	r := &reader{s: s}
	l := ledger.Ledger{First: r.number(), Next: r.number()}
	for range r.many() {
		d := ledger.Dest{Name: r.text(), Since: r.number(), Low: r.number(), Acked: r.number(), Evicted: r.number(), Rejected: r.number()}
		at := d.Low
		for range r.many() {
			at += r.number()
			d.Above = append(d.Above, at)
		}
		l.Dests = append(l.Dests, d)
	}
	return l, !r.bad && ledger.Right(l) && byWords(l) == s
}

// takenByWords wants that bytes are taken just if they are a right ledger's; it tells whether they are.
func takenByWords(t *testing.T, s string) bool {
	t.Helper()
	l, ok := found(s)
	m, e := mark.Take(s)
	switch {
	case !ok:
		if e != api.ErrForm || !isNothing(m) {
			t.Fatalf("%q: %s, %v", s, said(m), e)
		}
	case e != api.OK || said(m) != said(l):
		t.Fatalf("%q: %s, %v, not %s", s, said(m), e, said(l))
	default:
		if again, e := mark.Put(m); again != s || e != api.OK {
			t.Fatalf("%q, %v, not %q", again, e, s)
		}
	}
	return ok
}

// A seen has the bytes of each ledger that was put, so that no two have the same.
type seen map[string]string

func (s seen) put(t *testing.T, l ledger.Ledger) {
	t.Helper()
	was := said(l)
	bytes, e := mark.Put(l)
	if !ledger.Right(l) {
		if bytes != "" || e != api.ErrArg {
			t.Fatalf("%s: %q, %v", was, bytes, e)
		}
		return
	}
	if e != api.OK || bytes != byWords(l) || said(l) != was {
		t.Fatalf("%s: %q, %v", was, bytes, e)
	}
	if other, ok := s[bytes]; ok && other != was {
		t.Fatalf("%q is %s, and %s", bytes, other, was)
	}
	s[bytes] = was
	if m, e := mark.Take(bytes); e != api.OK || said(m) != was {
		t.Fatalf("%q: %s, %v, not %s", bytes, said(m), e, was)
	}
}

// lists are all lists of numbers below n, up to so many.
func lists(n uint64, most int) [][]uint64 {
	out := [][]uint64{nil}
	for from, size := 0, 1; size <= most; size++ {
		to := len(out)
		for _, l := range out[from:to] {
			for x := range n {
				out = append(out, append(slices.Clone(l), x))
			}
		}
		from = to
	}
	return out
}

// each goes through all numbers below each of the bounds.
func each(bounds []uint64, do func(n []uint64)) {
	n := make([]uint64, len(bounds))
	for {
		do(n)
		at := 0
		for at < len(n) && n[at] == bounds[at]-1 {
			n[at] = 0
			at++
		}
		if at == len(n) {
			return
		}
		n[at]++
	}
}

// TestK2SmallLedgers: of all ledgers of small numbers each that is right has bytes of its own, and is taken from them; no other one has any.
func TestK2SmallLedgers(t *testing.T) {
	all := seen{}
	for _, above := range lists(5, 3) {
		each([]uint64{4, 5, 4, 5, 3, 2, 2}, func(n []uint64) {
			d := ledger.Dest{Name: "a", Since: n[2], Low: n[3], Above: above, Acked: n[4], Evicted: n[5], Rejected: n[6]}
			l := of(n[0], n[1], d)
			all.put(t, l)
			takenByWords(t, byWords(l))
		})
	}
	for _, names := range [][2]string{{"a", "b"}, {"b", "a"}, {"a", "a"}, {"a", "ab"}, {"ab", "a"}, {"a", ""}} {
		each([]uint64{3, 3, 3, 3, 2, 3, 3, 2}, func(n []uint64) {
			l := of(n[0], n[1], ledger.Dest{Name: names[0], Since: n[2], Low: n[3], Acked: n[4]}, ledger.Dest{Name: names[1], Since: n[5], Low: n[6], Rejected: n[7]})
			all.put(t, l)
			takenByWords(t, byWords(l))
		})
	}
	each([]uint64{4, 4}, func(n []uint64) { all.put(t, of(n[0], n[1])) })
	if len(all) < 150 {
		t.Error(len(all))
	}
}

// TestK2SmallBytes: the same, begun with the bytes; counts are of what is there, or not.
func TestK2SmallBytes(t *testing.T) {
	good := 0
	try := func(s string) {
		if takenByWords(t, s) {
			good++
		}
	}
	for _, l := range lists(6, 5) {
		s := ""
		for _, n := range l {
			s += string([]byte{[]byte{0, 1, 2, 'a', 128, 129}[n]})
		}
		try(s)
	}
	for _, steps := range lists(4, 3) {
		behind := ""
		for _, n := range steps {
			behind += num7(n)
		}
		each([]uint64{3, 5, 3, 3, 3, 3, 2, 4}, func(n []uint64) {
			try(num7(n[0]) + num7(n[1]) + "\x01" + num7(n[2]) + "a" + num7(n[3]) + num7(n[4]) + num7(n[5]) + num7(n[6]) + "\x00" + num7(n[7]) + behind)
		})
	}
	if good < 100 {
		t.Error(good)
	}
}

// wildNumber is one of all sizes, the edges of each not seldom.
func wildNumber(r *rand.Rand) uint64 {
	switch n := r.Uint64() >> r.Intn(64); r.Intn(4) {
	case 0:
		return uint64(r.Intn(4))
	case 1:
		return 1<<r.Intn(64) - uint64(r.Intn(3)) + 1
	case 2:
		return most - uint64(r.Intn(3))
	default:
		return n
	}
}

// wildLedger is right, by numbers of all sizes.
func wildLedger(r *rand.Rand) ledger.Ledger {
	next := max(wildNumber(r), 1)
	l := of(1+wildNumber(r)%next, next)
	for i := range r.Intn(5) {
		d := ledger.Dest{Name: strings.Repeat(string(rune('a'+i)), 1+r.Intn(20)), Low: l.First}
		if next > l.First {
			d.Low += wildNumber(r) % (next - l.First + 1)
		}
		d.Since = 1 + wildNumber(r)%d.Low
		for at := d.Low; r.Intn(5) > 0 && next-at > 1; {
			at += 1 + wildNumber(r)%(next-at-1)
			d.Above = append(d.Above, at)
		}
		d.Acked, d.Evicted = wildNumber(r), wildNumber(r)
		d.Rejected = d.Low - d.Since + uint64(len(d.Above)) - d.Acked - d.Evicted
		l.Dests = append(l.Dests, d)
	}
	return l
}

// TestK2WildLedgers: the same of numbers of all sizes, and of what their bytes are when some of them are others.
func TestK2WildLedgers(t *testing.T) {
	r := rand.New(rand.NewSource(11))
	all := seen{}
	for range 20000 {
		l := wildLedger(r)
		if !ledger.Right(l) {
			t.Fatal(said(l))
		}
		all.put(t, l)
		s := []byte(byWords(l))
		for range r.Intn(4) {
			s[r.Intn(len(s))] = byte(r.Intn(256))
		}
		takenByWords(t, string(s))
		parts := partsOf(l)
		parts[r.Intn(len(parts))].bytes = num7(wildNumber(r))
		takenByWords(t, together(parts))
	}
	if len(all) < 10000 {
		t.Error(len(all))
	}
}

// TestP1WildBytes: whatever the bytes are, it ends, and they are taken by the words.
func TestP1WildBytes(t *testing.T) {
	r := rand.New(rand.NewSource(12))
	for range 50000 {
		s := make([]byte, r.Intn(40))
		for i := range s {
			s[i] = []byte{0, 1, 1, 2, 3, 'a', 'b', 127, 128, 255, byte(r.Intn(256))}[r.Intn(11)]
		}
		takenByWords(t, string(s))
	}
	for _, b := range []byte{0, 1, 4, 127, 128, 255} {
		takenByWords(t, strings.Repeat(string([]byte{b}), 1<<20))
	}
}

// TestP1WildLedgers: ledgers that nobody could go through are refused soon.
func TestP1WildLedgers(t *testing.T) {
	crowd := of(1, 3)
	for range 3000 {
		crowd.Dests = append(crowd.Dests, ledger.Dest{Name: "a", Above: []uint64{2, 1}})
	}
	for _, l := range []ledger.Ledger{crowd,
		{Next: most, Dests: []ledger.Dest{{Name: "a"}}},
		of(1, most, ledger.Dest{Name: "a", Since: 1, Low: 1, Acked: 1}),
		of(1, most, ledger.Dest{Name: "a", Since: 1, Low: most, Above: make([]uint64, 100000)}),
		of(1, 2, ledger.Dest{Name: strings.Repeat("a", 1<<20), Since: 1, Low: 1}),
	} {
		if s, e := mark.Put(l); s != "" || e != api.ErrArg {
			t.Error(len(s), e)
		}
		refused(t, byWords(l))
	}
}

func FuzzTake(f *testing.F) {
	for _, k := range known() {
		f.Add(k.s)
	}
	for _, l := range wrong() {
		f.Add(byWords(l))
	}
	f.Fuzz(func(t *testing.T, s string) { takenByWords(t, s) })
}
