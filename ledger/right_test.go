package ledger_test

import (
	"math"
	"slices"
	"strings"
	"testing"

	"postroom/api"
	"postroom/ledger"
)

// sound is a right ledger, in which each number that may be changed has room to be so.
func sound() ledger.Ledger {
	return ledger.Ledger{First: 3, Next: 12, Dests: []ledger.Dest{
		{Name: "a", Since: 2, Low: 4, Above: []uint64{6, 8}, Acked: 2, Evicted: 1, Rejected: 1},
		{Name: "b", Since: 1, Low: 12, Acked: 4, Evicted: 5, Rejected: 2},
	}}
}

// TestJ1RightByOne: each part of the word is broken by one change, and kept by one that goes just not so far.
func TestJ1RightByOne(t *testing.T) {
	long := strings.Repeat("n", 20)
	for what, c := range map[string]struct {
		change func(l *ledger.Ledger, a, b *ledger.Dest)
		want   bool
	}{
		"as it is":   {func(l *ledger.Ledger, a, b *ledger.Dest) {}, true},
		"First 0":    {func(l *ledger.Ledger, a, b *ledger.Dest) { l.First = 0 }, false},
		"First 1":    {func(l *ledger.Ledger, a, b *ledger.Dest) { l.First = 1 }, true},
		"First Next": {func(l *ledger.Ledger, a, b *ledger.Dest) { l.First = 12; *a = *b; a.Name = "a" }, true},
		"First above Next, and above Low, all done": {func(l *ledger.Ledger, a, b *ledger.Dest) { l.First = 13; *a = *b; a.Name = "a" }, false},
		"Next above all": {func(l *ledger.Ledger, a, b *ledger.Dest) { l.Next = 1000 }, true},

		"a name of none":       {func(l *ledger.Ledger, a, b *ledger.Dest) { a.Name = "" }, false},
		"a name of a digit":    {func(l *ledger.Ledger, a, b *ledger.Dest) { b.Name = "1" }, false},
		"a name of 20":         {func(l *ledger.Ledger, a, b *ledger.Dest) { a.Name = long }, true},
		"a name of 21":         {func(l *ledger.Ledger, a, b *ledger.Dest) { a.Name = long + "n" }, false},
		"a name of two":        {func(l *ledger.Ledger, a, b *ledger.Dest) { b.Name = "a" }, false},
		"names not in order":   {func(l *ledger.Ledger, a, b *ledger.Dest) { a.Name = "z" }, true},
		"names one in another": {func(l *ledger.Ledger, a, b *ledger.Dest) { b.Name = "ab" }, true},

		"Since 0":         {func(l *ledger.Ledger, a, b *ledger.Dest) { b.Since = 0; b.Acked++ }, false},
		"Since 1":         {func(l *ledger.Ledger, a, b *ledger.Dest) { a.Since = 1; a.Acked++ }, true},
		"Since Low":       {func(l *ledger.Ledger, a, b *ledger.Dest) { a.Since = 4; a.Acked = 0 }, true},
		"Low below Since": {func(l *ledger.Ledger, a, b *ledger.Dest) { a.Since = 5; a.Acked, a.Evicted = 0, 0 }, false},
		"Low below, at end": {func(l *ledger.Ledger, a, b *ledger.Dest) {
			b.Since, b.Acked, b.Evicted, b.Rejected = 13, 0, 0, math.MaxUint64
		}, false},
		"Low above Next": {func(l *ledger.Ledger, a, b *ledger.Dest) { b.Low = 13; b.Acked++ }, false},
		"Low below Next": {func(l *ledger.Ledger, a, b *ledger.Dest) { b.Low = 11; b.Acked-- }, true},

		"Above at Low":            {func(l *ledger.Ledger, a, b *ledger.Dest) { a.Above = []uint64{4, 8} }, false},
		"Above behind Low":        {func(l *ledger.Ledger, a, b *ledger.Dest) { a.Above = []uint64{5, 8} }, true},
		"Above below Low":         {func(l *ledger.Ledger, a, b *ledger.Dest) { a.Above = []uint64{3, 8} }, false},
		"Above at Next":           {func(l *ledger.Ledger, a, b *ledger.Dest) { a.Above = []uint64{6, 12} }, false},
		"Above below Next":        {func(l *ledger.Ledger, a, b *ledger.Dest) { a.Above = []uint64{6, 11} }, true},
		"Above above Next":        {func(l *ledger.Ledger, a, b *ledger.Dest) { a.Above = []uint64{6, 13} }, false},
		"Above twice":             {func(l *ledger.Ledger, a, b *ledger.Dest) { a.Above = []uint64{6, 6} }, false},
		"Above side by side":      {func(l *ledger.Ledger, a, b *ledger.Dest) { a.Above = []uint64{6, 7} }, true},
		"Above falling":           {func(l *ledger.Ledger, a, b *ledger.Dest) { a.Above = []uint64{8, 6} }, false},
		"Above falling later":     {func(l *ledger.Ledger, a, b *ledger.Dest) { a.Above = []uint64{6, 8, 7}; a.Acked++ }, false},
		"Above where all is done": {func(l *ledger.Ledger, a, b *ledger.Dest) { b.Above = []uint64{12}; b.Acked++ }, false},

		"First at Low, pending":        {func(l *ledger.Ledger, a, b *ledger.Dest) { l.First = 4 }, true},
		"First above Low, pending":     {func(l *ledger.Ledger, a, b *ledger.Dest) { l.First = 5 }, false},
		"First above Low, one pending": {func(l *ledger.Ledger, a, b *ledger.Dest) { l.First = 12; *a = *b; a.Name, a.Low = "a", 11; a.Acked-- }, false},
		"First above Since, all done":  {func(l *ledger.Ledger, a, b *ledger.Dest) { l.First = 9; *a = *b; a.Name = "a" }, true},

		"one too few acked":     {func(l *ledger.Ledger, a, b *ledger.Dest) { a.Acked-- }, false},
		"one too many acked":    {func(l *ledger.Ledger, a, b *ledger.Dest) { a.Acked++ }, false},
		"one too few evicted":   {func(l *ledger.Ledger, a, b *ledger.Dest) { b.Evicted-- }, false},
		"one too many evicted":  {func(l *ledger.Ledger, a, b *ledger.Dest) { a.Evicted++ }, false},
		"one too few rejected":  {func(l *ledger.Ledger, a, b *ledger.Dest) { a.Rejected-- }, false},
		"one too many rejected": {func(l *ledger.Ledger, a, b *ledger.Dest) { b.Rejected++ }, false},
		"one acked for another": {func(l *ledger.Ledger, a, b *ledger.Dest) { a.Acked++; a.Evicted-- }, true},
		"one Above too many":    {func(l *ledger.Ledger, a, b *ledger.Dest) { a.Above = append(a.Above, 10) }, false},
		"one Above too few":     {func(l *ledger.Ledger, a, b *ledger.Dest) { a.Above = a.Above[:1] }, false},
		"counts that go round":  {func(l *ledger.Ledger, a, b *ledger.Dest) { a.Acked, a.Evicted, a.Rejected = math.MaxUint64, 2, 3 }, true},
		"that go round twice": {func(l *ledger.Ledger, a, b *ledger.Dest) {
			a.Acked, a.Evicted, a.Rejected = math.MaxUint64, math.MaxUint64, 6
		}, true},
		"round by one less": {func(l *ledger.Ledger, a, b *ledger.Dest) { a.Acked, a.Evicted, a.Rejected = math.MaxUint64, 2, 2 }, false},
		"round by one more": {func(l *ledger.Ledger, a, b *ledger.Dest) { a.Acked, a.Evicted, a.Rejected = math.MaxUint64, 2, 4 }, false},
	} {
		l := sound()
		c.change(&l, &l.Dests[0], &l.Dests[1])
		if got := ledger.Right(l); got != c.want {
			t.Errorf("%s: %s: %v", what, said(l), got)
		}
		// the place of a destination does not matter
		slices.Reverse(l.Dests)
		if got := ledger.Right(l); got != c.want {
			t.Errorf("%s, the other way round: %v", what, got)
		}
	}
}

func TestJ1RightWithoutDestinations(t *testing.T) {
	for _, c := range []struct {
		first, next uint64
		want        bool
	}{
		{0, 0, false}, {0, 1, false}, {1, 0, false}, {1, 1, true}, {1, 2, true}, {2, 1, false}, {2, 2, true}, {7, 6, false}, {7, 7, true}, {0, math.MaxUint64, false},
		{1, math.MaxUint64, true}, {math.MaxUint64, math.MaxUint64, true}, {math.MaxUint64, math.MaxUint64 - 1, false}, {math.MaxUint64, 0, false}, {1 << 63, 1<<63 - 1, false},
	} {
		if got := ledger.Right(ledger.Ledger{First: c.first, Next: c.next}); got != c.want {
			t.Error(c, got)
		}
	}
}

func TestJ1RightOfManyDestinations(t *testing.T) {
	l := ledger.Ledger{First: 1, Next: 3}
	for many, name := range []string{"a", "b", "c", "d", "e", "f"} {
		if got := ledger.Right(l); got != (many <= 4) {
			t.Error(many, got)
		}
		l.Dests = append(l.Dests, ledger.Dest{Name: name, Since: 2, Low: 2})
	}
	l.Dests = l.Dests[:4]
	for at := range 4 {
		for ahead := range at {
			m := l
			m.Dests = slices.Clone(l.Dests)
			m.Dests[at].Name = m.Dests[ahead].Name
			if ledger.Right(m) {
				t.Error(said(m))
			}
		}
		m := l
		m.Dests = slices.Clone(l.Dests)
		m.Dests[at].Acked = 1
		if ledger.Right(m) {
			t.Error(said(m))
		}
	}
}

// rightByWords goes through all entries one by one, as the word says it.
func rightByWords(l ledger.Ledger) bool {
	if l.First < 1 || l.First > l.Next || len(l.Dests) > 4 {
		return false
	}
	for _, d := range l.Dests {
		if d.Since < 1 || d.Low < d.Since || l.Next < d.Low {
			return false
		}
		for i, n := range d.Above {
			if n <= d.Low || n >= l.Next || i > 0 && n <= d.Above[i-1] {
				return false
			}
		}
		done := uint64(0)
		for n := d.Since; n < l.Next; n++ {
			if n < d.Low || slices.Contains(d.Above, n) {
				done++
			} else if d.Low < l.First {
				return false
			}
		}
		if d.Acked+d.Evicted+d.Rejected != done {
			return false
		}
	}
	return true
}

// lists are all lists of numbers below n, up to so many.
func lists(n uint64, most int) [][]uint64 {
	out := [][]uint64{nil}
	for from, size := 0, 1; size <= most; size++ {
		to := len(out)
		for _, l := range out[from:to] {
			for x := range n {
				out = append(out, append(slices.Clone(l), x))
			}
		}
		from = to
	}
	return out
}

func TestJ1RightByWords(t *testing.T) {
	many := map[bool]int{}
	for _, above := range lists(6, 3) {
		for n := range 6 * 6 * 6 * 6 * 6 {
			d := ledger.Dest{Name: "a", Since: uint64(n % 6), Low: uint64(n / 6 % 6), Above: above, Rejected: uint64(n / 36 % 6)}
			l := ledger.Ledger{First: uint64(n / 216 % 6), Next: uint64(n / 1296), Dests: []ledger.Dest{d}}
			got, want := ledger.Right(l), rightByWords(l)
			if got != want {
				t.Fatalf("%s: %v", said(l), got)
			}
			many[got]++
		}
	}
	if many[true] < 100 || many[false] < 100 {
		t.Error(many)
	}
}

// wild are ledgers that are not right, some by numbers that nobody can go through.
func wild() []ledger.Ledger {
	const most = math.MaxUint64
	names := []string{"a", "b", "", "a", "A"}
	var out []ledger.Ledger
	edges := []uint64{0, 1, 2, 5, 1 << 63, most - 1, most}
	for _, first := range edges {
		for _, next := range edges {
			for i, low := range edges {
				for j, since := range edges {
					out = append(out, ledger.Ledger{First: first, Next: next, Dests: []ledger.Dest{
						{Name: names[i%5], Since: since, Low: low, Above: []uint64{most, 5, 5, 0, most, 2}[:j%7], Acked: since, Evicted: low, Rejected: first},
						{Name: names[j%5], Since: low, Low: since, Above: []uint64{low, low + 1, low + 2}, Acked: 1},
					}})
				}
			}
		}
	}
	crowd := ledger.Ledger{First: 1, Next: 3}
	for range 3000 {
		crowd.Dests = append(crowd.Dests, ledger.Dest{Name: "a", Above: []uint64{2, 1}})
	}
	return append(out, ledger.Ledger{}, ledger.Ledger{First: 2, Next: 1}, crowd,
		ledger.Ledger{Next: most, Dests: []ledger.Dest{{Name: "a"}}},
		ledger.Ledger{First: 1, Next: most, Dests: []ledger.Dest{{Name: "a", Since: 1, Low: 1, Acked: 1}}},
		ledger.Ledger{First: 1, Next: most, Dests: []ledger.Dest{{Name: "a", Since: 1, Low: most, Above: make([]uint64, 100000)}}})
}

// TestP1OfLedgersThatAreNotRight: each call tells some answer, and its errors stand alone.
func TestP1OfLedgersThatAreNotRight(t *testing.T) {
	for _, l := range wild() {
		if ledger.Right(l) {
			continue
		}
		was := said(l)
		for _, name := range []string{"a", "", "b", "z"} {
			for _, seq := range []uint64{0, 1, 5, 1 << 63, math.MaxUint64} {
				alone(t)(ledger.Done(l, name, seq, ledger.Acked))
				alone(t)(ledger.Done(l, name, seq, 'x'))
				alone(t)(ledger.Evict(l, seq))
				ledger.Waits(l, name, seq)
			}
			alone(t)(ledger.Join(l, name))
			alone(t)(ledger.Leave(l, name))
			ledger.Pending(l, name)
			if d, ok := ledger.Find(l, name); !ok && saidDest(d) != saidDest(ledger.Dest{}) {
				t.Fatal(d)
			}
		}
		ledger.Add(l)
		ledger.Free(l)
		if said(l) != was {
			t.Fatalf("%s, not %s", said(l), was)
		}
	}
}

// alone wants that there is nothing beside an error.
func alone(t *testing.T) func(ledger.Ledger, api.Errno) {
	return func(l ledger.Ledger, e api.Errno) {
		t.Helper()
		if e != api.OK && (l.First != 0 || l.Next != 0 || len(l.Dests) != 0) {
			t.Fatal(e, said(l))
		}
	}
}
