package ledger_test

import (
	"fmt"
	"math"
	"slices"
	"strings"
	"testing"

	"postroom/api"
	"postroom/ledger"
)

// said is a ledger as one line: First and Next; of each destination its name, Since, Low, Above, and its counts.
func said(l ledger.Ledger) string {
	out := fmt.Sprint(l.First, " ", l.Next)
	for _, d := range l.Dests {
		out += "; " + saidDest(d)
	}
	return out
}

func saidDest(d ledger.Dest) string {
	return fmt.Sprint(d.Name, " ", d.Since, " ", d.Low, " ", append([]uint64{}, d.Above...), " ", d.Acked, " ", d.Evicted, " ", d.Rejected)
}

// is wants that a ledger is right, and as it was said.
func is(t *testing.T, l ledger.Ledger, want string) {
	t.Helper()
	if got := said(l); got != want || !ledger.Right(l) {
		t.Errorf("%s (right: %v), not %s", got, ledger.Right(l), want)
	}
}

// tells wants either an error and nothing beside it, or a right ledger.
func tells(t *testing.T, want string, wrong api.Errno) func(ledger.Ledger, api.Errno) {
	return func(l ledger.Ledger, e api.Errno) {
		t.Helper()
		if e != wrong {
			t.Errorf("%v, not %v", e, wrong)
		}
		if e == api.OK {
			is(t, l, want)
		} else if l.First != 0 || l.Next != 0 || len(l.Dests) != 0 {
			t.Errorf("%s beside %v", said(l), e)
		}
	}
}

// must is what a call told that ought to tell no error.
func must(t *testing.T) func(ledger.Ledger, api.Errno) ledger.Ledger {
	return func(l ledger.Ledger, e api.Errno) ledger.Ledger {
		t.Helper()
		if e != api.OK || !ledger.Right(l) {
			t.Fatalf("%s: %v", said(l), e)
		}
		return l
	}
}

func add(l ledger.Ledger, many int) ledger.Ledger {
	for range many {
		l = ledger.Add(l)
	}
	return l
}

// joined has these destinations, and an entry behind each Join.
func joined(t *testing.T, names ...string) ledger.Ledger {
	t.Helper()
	l := ledger.New()
	for _, name := range names {
		l = ledger.Add(must(t)(ledger.Join(l, name)))
	}
	return l
}

// acked has a, and so many entries, of which these are acked.
func acked(t *testing.T, many int, seqs ...uint64) ledger.Ledger {
	t.Helper()
	l := add(must(t)(ledger.Join(ledger.New(), "a")), many)
	for _, seq := range seqs {
		l = must(t)(ledger.Done(l, "a", seq, ledger.Acked))
	}
	return l
}

func TestJ1New(t *testing.T) {
	is(t, ledger.New(), "1 1")
}

func TestJ1Add(t *testing.T) {
	l := ledger.Add(ledger.New())
	is(t, l, "1 2")
	is(t, add(l, 98), "1 100")
	l = must(t)(ledger.Join(l, "a"))
	l = ledger.Add(must(t)(ledger.Join(ledger.Add(l), "b")))
	is(t, l, "1 4; a 2 2 [] 0 0 0; b 3 3 [] 0 0 0")
	l = must(t)(ledger.Done(l, "a", 3, ledger.Acked))
	is(t, ledger.Add(l), "1 5; a 2 2 [3] 1 0 0; b 3 3 [] 0 0 0")
	l = must(t)(ledger.Done(l, "b", 3, ledger.Acked))
	is(t, ledger.Add(l), "1 5; a 2 2 [3] 1 0 0; b 3 4 [] 1 0 0") // Low is the new one, as all ahead is done
}

func TestJ1AddGoesRound(t *testing.T) {
	l := ledger.Ledger{First: 7, Next: math.MaxUint64 - 1}
	is(t, ledger.Add(l), "7 18446744073709551615")
	if got := said(ledger.Add(ledger.Add(l))); got != "7 0" {
		t.Error(got)
	}
}

func TestJ1Join(t *testing.T) {
	l := ledger.New()
	tells(t, "1 1; a 1 1 [] 0 0 0", api.OK)(ledger.Join(l, "a"))
	tells(t, "1 1; _z9 1 1 [] 0 0 0", api.OK)(ledger.Join(l, "_z9"))
	longest := strings.Repeat("n", 20)
	tells(t, "1 1; "+longest+" 1 1 [] 0 0 0", api.OK)(ledger.Join(l, longest))
	l = joined(t, "d", "b")
	tells(t, "1 3; d 1 1 [] 0 0 0; b 2 2 [] 0 0 0; c 3 3 [] 0 0 0", api.OK)(ledger.Join(l, "c")) // the last one, whatever its name is
	l = must(t)(ledger.Evict(l, 3))
	tells(t, "3 3; d 1 3 [] 0 2 0; b 2 3 [] 0 1 0; a 3 3 [] 0 0 0", api.OK)(ledger.Join(l, "a"))
}

func TestJ1JoinErrs(t *testing.T) {
	none, longest := ledger.New(), strings.Repeat("n", 20)
	three, four := joined(t, "a", "b", longest), joined(t, "a", "b", longest, "d")
	five := four
	five.Dests = append(slices.Clone(four.Dests), ledger.Dest{Name: "e", Since: 5, Low: 5})
	for i, c := range []struct {
		l    ledger.Ledger
		name string
		want api.Errno
	}{
		{none, "", api.ErrName},
		{none, "1", api.ErrName},
		{none, "A", api.ErrName},
		{none, "a b", api.ErrName},
		{none, "é", api.ErrName},
		{none, longest + "n", api.ErrName},
		{three, "a", api.ErrThere},
		{three, "b", api.ErrThere},
		{three, longest, api.ErrThere},
		{four, "e", api.ErrMany},
		{four, "aa", api.ErrMany},
		// the order: a name that is none, one that is there, a fifth
		{four, "", api.ErrName},
		{four, longest + "n", api.ErrName},
		{four, "a", api.ErrThere},
		{four, "d", api.ErrThere},
		{five, "f", api.ErrMany}, // it is not right: some answer
	} {
		t.Log(i, c.name)
		tells(t, "", c.want)(ledger.Join(c.l, c.name))
	}
	if _, e := ledger.Join(three, "d"); e != api.OK {
		t.Error(e)
	}
}

func TestJ1Leave(t *testing.T) {
	l := joined(t, "a", "b", "c", "d")
	for name, want := range map[string]string{
		"a": "1 5; b 2 2 [] 0 0 0; c 3 3 [] 0 0 0; d 4 4 [] 0 0 0",
		"b": "1 5; a 1 1 [] 0 0 0; c 3 3 [] 0 0 0; d 4 4 [] 0 0 0",
		"c": "1 5; a 1 1 [] 0 0 0; b 2 2 [] 0 0 0; d 4 4 [] 0 0 0",
		"d": "1 5; a 1 1 [] 0 0 0; b 2 2 [] 0 0 0; c 3 3 [] 0 0 0",
	} {
		tells(t, want, api.OK)(ledger.Leave(l, name))
	}
	for _, name := range []string{"", "e", "A", "aa", strings.Repeat("n", 100)} {
		tells(t, "", api.ErrNone)(ledger.Leave(l, name))
	}
	tells(t, "", api.ErrNone)(ledger.Leave(ledger.New(), "a"))
	tells(t, "1 2", api.OK)(ledger.Leave(joined(t, "a"), "a"))
}

// TestJ1JoinAgain: who left, and joins, has nothing of what it had.
func TestJ1JoinAgain(t *testing.T) {
	l := must(t)(ledger.Done(joined(t, "a", "b"), "a", 2, ledger.Acked))
	l = must(t)(ledger.Leave(l, "a"))
	tells(t, "", api.ErrNone)(ledger.Leave(l, "a"))
	tells(t, "1 3; b 2 2 [] 0 0 0; a 3 3 [] 0 0 0", api.OK)(ledger.Join(l, "a"))
}

func TestJ1Find(t *testing.T) {
	l := must(t)(ledger.Done(joined(t, "a", "b", "c"), "b", 3, ledger.Rejected))
	for name, want := range map[string]string{"a": "a 1 1 [] 0 0 0", "b": "b 2 2 [3] 0 0 1", "c": "c 3 3 [] 0 0 0"} {
		if d, ok := ledger.Find(l, name); !ok || saidDest(d) != want {
			t.Error(d, ok)
		}
	}
	for _, name := range []string{"", "d", "A", "aa"} {
		if d, ok := ledger.Find(l, name); ok || saidDest(d) != saidDest(ledger.Dest{}) {
			t.Error(name, d, ok)
		}
	}
	if d, ok := ledger.Find(ledger.New(), "a"); ok || d.Name != "" {
		t.Error(d, ok)
	}
}

func TestJ2Done(t *testing.T) {
	l := acked(t, 5, 1, 3)
	l = must(t)(ledger.Evict(l, 2))
	is(t, l, "2 6; a 1 2 [3] 2 0 0")
	for i, c := range []struct {
		seq  uint64
		kind byte
		want string
	}{
		{2, ledger.Acked, "2 6; a 1 4 [] 3 0 0"},
		{2, ledger.Rejected, "2 6; a 1 4 [] 2 0 1"},
		{4, ledger.Acked, "2 6; a 1 2 [3 4] 3 0 0"},
		{4, ledger.Rejected, "2 6; a 1 2 [3 4] 2 0 1"},
		{5, ledger.Acked, "2 6; a 1 2 [3 5] 3 0 0"},
		{5, 'r', "2 6; a 1 2 [3 5] 2 0 1"},
	} {
		t.Log(i)
		tells(t, c.want, api.OK)(ledger.Done(l, "a", c.seq, c.kind))
	}
}

// TestJ2DoneBetween: what Low and Above are, as what was missing between them is done.
func TestJ2DoneBetween(t *testing.T) {
	l := acked(t, 9)
	for i, c := range []struct {
		seq  uint64
		want string
	}{
		{8, "1 10; a 1 1 [8] 1 0 0"},
		{3, "1 10; a 1 1 [3 8] 2 0 0"},
		{6, "1 10; a 1 1 [3 6 8] 3 0 0"},
		{2, "1 10; a 1 1 [2 3 6 8] 4 0 0"},
		{1, "1 10; a 1 4 [6 8] 5 0 0"},
		{5, "1 10; a 1 4 [5 6 8] 6 0 0"},
		{9, "1 10; a 1 4 [5 6 8 9] 7 0 0"},
		{4, "1 10; a 1 7 [8 9] 8 0 0"},
		{7, "1 10; a 1 10 [] 9 0 0"},
	} {
		t.Log(i)
		l = must(t)(ledger.Done(l, "a", c.seq, ledger.Acked))
		is(t, l, c.want)
	}
}

// TestJ2DoneOfOne: the other destinations stay as they are.
func TestJ2DoneOfOne(t *testing.T) {
	l := add(joined(t, "a", "b", "c"), 1)
	l = must(t)(ledger.Done(l, "b", 3, ledger.Acked))
	l = must(t)(ledger.Done(l, "c", 3, ledger.Rejected))
	is(t, l, "1 5; a 1 1 [] 0 0 0; b 2 2 [3] 1 0 0; c 3 4 [] 0 0 1")
	tells(t, "1 5; a 1 1 [] 0 0 0; b 2 4 [] 1 0 1; c 3 4 [] 0 0 1", api.OK)(ledger.Done(l, "b", 2, ledger.Rejected))
}

func TestJ2DoneErrs(t *testing.T) {
	l := must(t)(ledger.Join(add(ledger.New(), 2), "a"))
	l = add(l, 5)
	l = must(t)(ledger.Done(l, "a", 3, ledger.Acked))
	l = must(t)(ledger.Done(l, "a", 6, ledger.Rejected))
	is(t, l, "1 8; a 3 4 [6] 1 0 1")
	for i, c := range []struct {
		name string
		seq  uint64
		kind byte
		want api.Errno
	}{
		{"b", 4, ledger.Acked, api.ErrNone},
		{"", 4, ledger.Rejected, api.ErrNone},
		{"a", 4, ledger.Evicted, api.ErrArg},
		{"a", 4, 0, api.ErrArg},
		{"a", 4, 'A', api.ErrArg},
		{"a", 4, 'b', api.ErrArg},
		{"a", 4, 255, api.ErrArg},
		{"a", 0, ledger.Acked, api.ErrState},                    // never a number
		{"a", 1, ledger.Acked, api.ErrState},                    // below Since
		{"a", 2, ledger.Rejected, api.ErrState},                 // below Since
		{"a", 3, ledger.Acked, api.ErrState},                    // below Low
		{"a", 3, ledger.Rejected, api.ErrState},                 // below Low
		{"a", 6, ledger.Rejected, api.ErrState},                 // in Above
		{"a", 6, ledger.Acked, api.ErrState},                    // in Above
		{"a", 8, ledger.Acked, api.ErrState},                    // Next
		{"a", 9, ledger.Rejected, api.ErrState},                 // above Next
		{"a", math.MaxUint64, ledger.Acked, api.ErrState},       // far above Next
		{"a", math.MaxInt64 + 1, ledger.Rejected, api.ErrState}, // far above Next
		// the order: no destination, another byte, a number that is not pending
		{"b", 4, 'x', api.ErrNone},
		{"b", 8, ledger.Acked, api.ErrNone},
		{"b", 8, 'x', api.ErrNone},
		{"a", 8, ledger.Evicted, api.ErrArg},
		{"a", 3, 'x', api.ErrArg},
		{"a", 6, 0, api.ErrArg},
	} {
		t.Log(i)
		tells(t, "", c.want)(ledger.Done(l, c.name, c.seq, c.kind))
	}
	for kind := range 256 {
		want := api.ErrArg
		if kind == 'a' || kind == 'r' {
			want = api.OK
		}
		if _, e := ledger.Done(l, "a", 4, byte(kind)); e != want {
			t.Error(kind, e)
		}
	}
	tells(t, "", api.ErrNone)(ledger.Done(ledger.New(), "a", 1, ledger.Acked))
	empty := must(t)(ledger.Join(ledger.New(), "a"))
	tells(t, "", api.ErrState)(ledger.Done(empty, "a", 1, ledger.Acked)) // Low and Next
}

func TestJ3Evict(t *testing.T) {
	l := acked(t, 9, 1, 3, 5, 6, 8)
	is(t, l, "1 10; a 1 2 [3 5 6 8] 5 0 0")
	for to, want := range map[uint64]string{
		1:  "1 10; a 1 2 [3 5 6 8] 5 0 0", // First: nothing goes
		2:  "2 10; a 1 2 [3 5 6 8] 5 0 0", // nothing is pending below it
		3:  "3 10; a 1 4 [5 6 8] 5 1 0",   // a number of Above at it
		4:  "4 10; a 1 4 [5 6 8] 5 1 0",   // one below it
		5:  "5 10; a 1 7 [8] 5 2 0",       // one below, and two at it, one behind the other
		6:  "6 10; a 1 7 [8] 5 2 0",       // in their midst
		7:  "7 10; a 1 7 [8] 5 2 0",       // behind them
		8:  "8 10; a 1 9 [] 5 3 0",        // all others below it
		9:  "9 10; a 1 9 [] 5 3 0",        // all below it
		10: "10 10; a 1 10 [] 5 4 0",      // Next: all goes
	} {
		t.Log(to)
		tells(t, want, api.OK)(ledger.Evict(l, to))
	}
	for _, to := range []uint64{0, 11, 12, 1 << 63, math.MaxUint64} {
		tells(t, "", api.ErrArg)(ledger.Evict(l, to))
	}
	l = must(t)(ledger.Evict(l, 4))
	for _, to := range []uint64{0, 1, 2, 3, 11} {
		tells(t, "", api.ErrArg)(ledger.Evict(l, to))
	}
	tells(t, said(l), api.OK)(ledger.Evict(l, 4))
	tells(t, "", api.ErrArg)(ledger.Evict(ledger.New(), 0))
	tells(t, "1 1", api.OK)(ledger.Evict(ledger.New(), 1))
	tells(t, "", api.ErrArg)(ledger.Evict(ledger.New(), 2))
}

// TestJ3EvictOfEach: each destination has its own entries below the number.
func TestJ3EvictOfEach(t *testing.T) {
	l := add(joined(t, "a", "b", "c", "d"), 1)
	l = must(t)(ledger.Done(l, "a", 2, ledger.Acked))
	l = must(t)(ledger.Done(l, "b", 2, ledger.Rejected))
	is(t, l, "1 6; a 1 1 [2] 1 0 0; b 2 3 [] 0 0 1; c 3 3 [] 0 0 0; d 4 4 [] 0 0 0")
	for to, want := range map[uint64]string{
		2: "2 6; a 1 3 [] 1 1 0; b 2 3 [] 0 0 1; c 3 3 [] 0 0 0; d 4 4 [] 0 0 0",
		3: "3 6; a 1 3 [] 1 1 0; b 2 3 [] 0 0 1; c 3 3 [] 0 0 0; d 4 4 [] 0 0 0",
		4: "4 6; a 1 4 [] 1 2 0; b 2 4 [] 0 1 1; c 3 4 [] 0 1 0; d 4 4 [] 0 0 0",
		6: "6 6; a 1 6 [] 1 4 0; b 2 6 [] 0 3 1; c 3 6 [] 0 3 0; d 4 6 [] 0 2 0",
	} {
		t.Log(to)
		tells(t, want, api.OK)(ledger.Evict(l, to))
	}
}

func TestJ3Free(t *testing.T) {
	wants := func(l ledger.Ledger, want uint64) {
		t.Helper()
		if got := ledger.Free(l); got != want {
			t.Errorf("%s: %d, not %d", said(l), got, want)
		}
	}
	wants(ledger.New(), 1)
	wants(add(ledger.New(), 6), 7) // no destination
	l := add(joined(t, "c", "a", "b"), 1)
	wants(l, 1)
	l = must(t)(ledger.Done(l, "c", 2, ledger.Acked))
	wants(l, 1) // what is done above does not matter
	l = must(t)(ledger.Done(l, "c", 1, ledger.Acked))
	wants(l, 2) // a's
	l = must(t)(ledger.Done(l, "a", 2, ledger.Rejected))
	l = must(t)(ledger.Done(l, "a", 3, ledger.Rejected))
	wants(l, 3) // c's and b's
	l = must(t)(ledger.Done(l, "c", 3, ledger.Acked))
	wants(l, 3) // b's, the last destination's
	left := must(t)(ledger.Leave(l, "b"))
	wants(left, 4) // now others'
	l = must(t)(ledger.Evict(l, 4))
	wants(l, 4)
	l = must(t)(ledger.Evict(l, 5))
	wants(l, 5) // nothing is pending: Next
	wants(must(t)(ledger.Join(l, "d")), 5)
	wants(ledger.Add(l), 5)
	wants(ledger.Ledger{First: math.MaxUint64, Next: math.MaxUint64}, math.MaxUint64)
}

func TestJ4PendingAndWaits(t *testing.T) {
	l := must(t)(ledger.Join(add(ledger.New(), 2), "a"))
	l = must(t)(ledger.Join(add(l, 6), "b"))
	l = ledger.Add(l)
	for _, seq := range []uint64{3, 5, 6, 8} {
		l = must(t)(ledger.Done(l, "a", seq, ledger.Acked))
	}
	is(t, l, "1 10; a 3 4 [5 6 8] 4 0 0; b 9 9 [] 0 0 0")
	waitsFor(t, l, "a", 4, 7, 9)
	waitsFor(t, l, "b", 9)
	for _, name := range []string{"", "c", "A", "ab"} {
		waitsFor(t, l, name)
		waitsFor(t, ledger.New(), name)
	}
	waitsFor(t, must(t)(ledger.Join(l, "c")), "c")
	l = must(t)(ledger.Evict(l, 8))
	waitsFor(t, l, "a", 9)
	l = must(t)(ledger.Done(l, "a", 9, ledger.Rejected))
	waitsFor(t, l, "a")
	waitsFor(t, l, "b", 9)
}

// waitsFor wants that a destination waits for just these numbers.
func waitsFor(t *testing.T, l ledger.Ledger, name string, want ...uint64) {
	t.Helper()
	if got := ledger.Pending(l, name); !slices.Equal(got, want) {
		t.Errorf("%s: %q: %d, not %d", said(l), name, got, want)
	}
	for seq := range l.Next + 3 {
		if got := ledger.Waits(l, name, seq); got != slices.Contains(want, seq) {
			t.Errorf("%s: %q, %d: %v", said(l), name, seq, got)
		}
	}
	for _, seq := range []uint64{1 << 32, 1 << 63, math.MaxUint64} {
		if ledger.Waits(l, name, seq) {
			t.Errorf("%s: %q, %d", said(l), name, seq)
		}
	}
}

// TestExamples are those of the chapter.
func TestExamples(t *testing.T) {
	l := acked(t, 3, 2)
	is(t, l, "1 4; a 1 1 [2] 1 0 0")
	waitsFor(t, l, "a", 1, 3)
	l = must(t)(ledger.Evict(l, 3))
	is(t, l, "3 4; a 1 3 [] 1 1 0")
	waitsFor(t, l, "a", 3)
}

// TestFarNumbers: so many numbers can't be gone through one by one, and the greatest ones go round.
func TestFarNumbers(t *testing.T) {
	const most = math.MaxUint64
	far := ledger.Ledger{First: 1, Next: most, Dests: []ledger.Dest{
		{Name: "a", Since: 1, Low: 1, Above: []uint64{5, 1 << 40, most - 1}, Acked: 3},
		{Name: "b", Since: most - 2, Low: most - 2},
		{Name: "c", Since: most, Low: most, Acked: 1, Rejected: most},
	}}
	const b, c = "; b 18446744073709551613 18446744073709551613 [] 0 0 0", "; c 18446744073709551615 18446744073709551615 [] 1 0 18446744073709551615"
	is(t, far, "1 18446744073709551615; a 1 1 [5 1099511627776 18446744073709551614] 3 0 0"+b+c)
	tells(t, "5 18446744073709551615; a 1 6 [1099511627776 18446744073709551614] 3 4 0"+b+c, api.OK)(ledger.Evict(far, 5))
	tells(t, "9223372036854775808 18446744073709551615; a 1 9223372036854775808 [18446744073709551614] 3 9223372036854775805 0"+b+c, api.OK)(ledger.Evict(far, 1<<63))
	all := must(t)(ledger.Evict(far, most))
	is(t, all, "18446744073709551615 18446744073709551615; a 1 18446744073709551615 [] 3 18446744073709551611 0; b 18446744073709551613 18446744073709551615 [] 0 2 0"+c)
	tells(t, "1 18446744073709551615; a 1 2 [5 1099511627776 18446744073709551614] 3 0 1"+b+c, api.OK)(ledger.Done(far, "a", 1, ledger.Rejected))
	tells(t, "1 18446744073709551615; a 1 1 [5 1099511627776 18446744073709551613 18446744073709551614] 4 0 0"+b+c, api.OK)(ledger.Done(far, "a", most-2, ledger.Acked))
	tells(t, "", api.ErrState)(ledger.Done(far, "a", most-1, ledger.Acked))
	tells(t, "", api.ErrState)(ledger.Done(far, "a", most, ledger.Acked))
	tells(t, "", api.ErrState)(ledger.Done(far, "c", most, ledger.Acked))
	if got := ledger.Pending(far, "b"); !slices.Equal(got, []uint64{most - 2, most - 1}) {
		t.Error(got)
	}
	if len(ledger.Pending(far, "c")) != 0 || !ledger.Waits(far, "a", 1<<41) || ledger.Waits(far, "a", 1<<40) || ledger.Free(far) != 1 || ledger.Free(all) != most {
		t.Error("far")
	}
	tells(t, said(far)+"; d 18446744073709551615 18446744073709551615 [] 0 0 0", api.OK)(ledger.Join(far, "d"))
}
