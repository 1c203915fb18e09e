package label_test

import (
	"maps"
	"math/rand"
	"slices"
	"strings"
	"testing"

	"postroom/api"
	"postroom/label"
)

// opens and goesOn are the bytes that the words allow, written out one by one.
const (
	opens  = "abcdefghijklmnopqrstuvwxyz_"
	goesOn = opens + "0123456789"
)

var longest = strings.Repeat("v", 40)

// pairs are names and values by turns.
func pairs(texts ...string) []api.Pair {
	var out []api.Pair
	for i := 0; i+1 < len(texts); i += 2 {
		out = append(out, api.Pair{Name: texts[i], Value: texts[i+1]})
	}
	return out
}

// some are so many right labels, in an order that is not canonical if there are more than one.
func some(n int) []api.Pair {
	var out []api.Pair
	for i := range n {
		out = append(out, api.Pair{Name: string(rune('a' + n - i)), Value: strings.Repeat("x", i)})
	}
	return out
}

// byNames is how labels are put in order, as the words say it, by a map.
func byNames(l []api.Pair) []api.Pair {
	values := map[string]string{}
	for _, p := range l {
		values[p.Name] = p.Value
	}
	var out []api.Pair
	for _, name := range slices.Sorted(maps.Keys(values)) {
		out = append(out, api.Pair{Name: name, Value: values[name]})
	}
	return out
}

// orders are all orders of a list.
func orders(l []api.Pair) [][]api.Pair {
	if len(l) == 0 {
		return [][]api.Pair{nil}
	}
	var out [][]api.Pair
	for _, o := range orders(l[1:]) {
		for at := range len(l) {
			out = append(out, slices.Insert(slices.Clone(o), at, l[0]))
		}
	}
	return out
}

// chance are right labels, the same for each source.
func chance(r *rand.Rand) []api.Pair {
	seen := map[string]bool{}
	var out []api.Pair
	for range r.Intn(9) {
		name := string(opens[r.Intn(len(opens))])
		for range r.Intn(4) * r.Intn(7) {
			name += string(goesOn[r.Intn(len(goesOn))])
		}
		value := make([]byte, r.Intn(3)*r.Intn(21))
		r.Read(value)
		if !seen[name] {
			seen[name] = true
			out = append(out, api.Pair{Name: name, Value: string(value)})
		}
	}
	return out
}

func rightLabels() [][]api.Pair {
	out := [][]api.Pair{
		nil, {}, pairs("a", ""), pairs("_", "\x00"), pairs("z", longest), pairs(strings.Repeat("n", 20), longest),
		pairs("b", "2", "a", "1"), pairs("a", "1", "b", "2"), pairs("b", "1", "a", "2"), pairs("ab", "", "a", "b"), pairs("a", "", "ab", "", "aa", "", "a_", "", "a0", "", "_a", ""),
		some(1), some(2), some(7), some(8),
	}
	r := rand.New(rand.NewSource(3))
	for range 300 {
		out = append(out, chance(r))
	}
	return out
}

func mustPut(t *testing.T, l []api.Pair) string {
	t.Helper()
	s, e := label.Put(l)
	if e != api.OK {
		t.Fatalf("Put(%q): %v", l, e)
	}
	return s
}

func TestC1NameOfEachByte(t *testing.T) {
	for b := range 256 {
		c := string([]byte{byte(b)})
		if got, want := label.Name(c), strings.Contains(opens, c); got != want {
			t.Errorf("Name(%q): %v", c, got)
		}
		want := strings.Contains(goesOn, c)
		for _, s := range []string{"a" + c, "_" + c + "z", "z0" + c + "_", strings.Repeat("n", 19) + c} {
			if got := label.Name(s); got != want {
				t.Errorf("Name(%q): %v", s, got)
			}
		}
		if s := c + "a"; label.Name(s) != strings.Contains(opens, c) {
			t.Errorf("Name(%q)", s)
		}
	}
}

func TestC1NameOfEachSize(t *testing.T) {
	for size := range 300 {
		if got, want := label.Name(strings.Repeat("n", size)), size >= 1 && size <= 20; got != want {
			t.Error(size, got)
		}
	}
	for _, s := range []string{"é", "aé", "ª", "a٣", "ａ", "a b", "a.b", "a\x00", "\xff"} {
		if label.Name(s) {
			t.Errorf("Name(%q)", s)
		}
	}
}

func TestC1Check(t *testing.T) {
	tooLong, noName := longest+"v", strings.Repeat("n", 21)
	for i, c := range []struct {
		l    []api.Pair
		want api.Errno
	}{
		{nil, api.OK},
		{[]api.Pair{}, api.OK},
		{pairs("a", ""), api.OK},
		{pairs("a", longest), api.OK},
		{pairs("a", "\x00\xff\n"), api.OK},
		{pairs(noName[1:], ""), api.OK},
		{pairs("a", "1", "b", "1", "ab", "1"), api.OK},
		{some(8), api.OK},
		{some(9), api.ErrMany},
		{some(20), api.ErrMany},
		{make([]api.Pair, 8), api.ErrName},
		{make([]api.Pair, 9), api.ErrMany},
		{make([]api.Pair, 100000), api.ErrMany},
		{pairs("", ""), api.ErrName},
		{pairs("0", ""), api.ErrName},
		{pairs("A", ""), api.ErrName},
		{pairs(noName, ""), api.ErrName},
		{pairs("a", tooLong), api.ErrLong},
		{pairs("a", strings.Repeat("é", 21)), api.ErrLong},
		{pairs("a", strings.Repeat("é", 20)), api.OK},
		{pairs("a", "1", "a", "1"), api.ErrThere},
		{pairs("a", "1", "a", "2"), api.ErrThere},
		{pairs("a", "1", "b", "", "c", "", "a", "2"), api.ErrThere},
		{pairs("c", "", "b", "", "c", "", "b", ""), api.ErrThere},
		// of one pair: its name, its value, those ahead
		{pairs("", tooLong), api.ErrName},
		{pairs("a", "", "a", tooLong), api.ErrLong},
		{pairs("", "", "", ""), api.ErrName},
		// of several pairs: the first
		{pairs("a", tooLong, "", ""), api.ErrLong},
		{pairs("", "", "a", tooLong), api.ErrName},
		{pairs("a", "", "a", "", "", ""), api.ErrThere},
		{pairs("a", "", "a", "", "b", tooLong), api.ErrThere},
		{pairs("a", "", "b", tooLong, "a", ""), api.ErrLong},
		{pairs("a", "", "", "", "a", ""), api.ErrName},
		// of the whole: how many
		{append(some(8), api.Pair{Name: "a", Value: tooLong}), api.ErrMany},
		{append(pairs("", tooLong), some(8)...), api.ErrMany},
		{append(some(8), some(1)...), api.ErrMany},
	} {
		if got := label.Check(c.l); got != c.want {
			t.Errorf("%d: Check: %v", i, got)
		}
		canon, e := label.Canon(c.l)
		if e != c.want || e != api.OK && len(canon) != 0 {
			t.Errorf("%d: Canon: %q %v", i, canon, e)
		}
		s, e := label.Put(c.l)
		if e != c.want || e != api.OK && s != "" {
			t.Errorf("%d: Put: %q %v", i, s, e)
		}
	}
}

func TestC1CheckAtEachPlace(t *testing.T) {
	for size := 1; size <= 8; size++ {
		for at := range size {
			l := some(size)
			l[at].Name = "-"
			if e := label.Check(l); e != api.ErrName {
				t.Error(size, at, e)
			}
			l = some(size)
			l[at].Value = longest + "v"
			if e := label.Check(l); e != api.ErrLong {
				t.Error(size, at, e)
			}
			for ahead := range at {
				l = some(size)
				l[at].Name = l[ahead].Name
				if e := label.Check(l); e != api.ErrThere {
					t.Error(size, ahead, at, e)
				}
			}
		}
	}
}

func TestC1Canon(t *testing.T) {
	for _, l := range rightLabels() {
		got, e := label.Canon(l)
		if e != api.OK || !slices.Equal(got, byNames(l)) {
			t.Errorf("Canon(%q): %q %v", l, got, e)
		}
		if again, e := label.Canon(got); e != api.OK || !slices.Equal(again, got) {
			t.Errorf("Canon(%q): %q %v", got, again, e)
		}
	}
}

// The order is that of bytes: '0' < '_' < 'a', and what begins another name is ahead of it.
func TestC1CanonByBytes(t *testing.T) {
	want := []string{"_", "_0", "__", "a", "a0", "a_", "aa", "b"}
	l := pairs("b", "", "aa", "", "a", "", "a_", "", "__", "", "_", "", "a0", "", "_0", "")
	got, e := label.Canon(l)
	var names []string
	for _, p := range got {
		names = append(names, p.Name)
	}
	if e != api.OK || !slices.Equal(names, want) {
		t.Errorf("%q %v", names, e)
	}
}

func TestC1LeavesWhatIsHandedIn(t *testing.T) {
	for _, l := range rightLabels() {
		behind := api.Pair{Name: "behind", Value: "the length"}
		whole := append(slices.Clone(l), behind, behind)
		part := whole[:len(l)]
		canon, e := label.Canon(part)
		if e != api.OK || len(canon) != len(l) {
			t.Errorf("Canon(%q): %q %v", l, canon, e)
		}
		mustPut(t, part)
		label.Value(part, "a")
		label.Match([]label.Matcher{{Name: "a"}}, part)
		for i := range canon {
			canon[i] = api.Pair{Name: "written", Value: "into"}
		}
		_ = append(canon, canon...)
		if !slices.Equal(part, l) || whole[len(l)] != behind || whole[len(l)+1] != behind {
			t.Errorf("%q: %q", l, whole)
		}
	}
}

func TestC2Put(t *testing.T) {
	name, value := strings.Repeat("n", 20), strings.Repeat("\xff", 40)
	for i, c := range []struct {
		l    []api.Pair
		want string
	}{
		{nil, "\x00"},
		{[]api.Pair{}, "\x00"},
		{pairs("b", "2", "a", "1"), "\x02\x01a\x011\x01b\x012"},
		{pairs("a", "1", "b", "2"), "\x02\x01a\x011\x01b\x012"},
		{pairs("a", ""), "\x01\x01a\x00"},
		{pairs(name, value), "\x01\x14" + name + "\x28" + value},
		{pairs("c", "", "ab", "x", "a", "yz"), "\x03\x01a\x02yz\x02ab\x01x\x01c\x00"},
		{pairs("h", "", "g", "", "f", "", "e", "", "d", "", "c", "", "b", "", "a", ""), "\x08\x01a\x00\x01b\x00\x01c\x00\x01d\x00\x01e\x00\x01f\x00\x01g\x00\x01h\x00"},
	} {
		if got, e := label.Put(c.l); got != c.want || e != api.OK {
			t.Errorf("%d: %q %v", i, got, e)
		}
	}
}

func TestC2TakesWhatWasPut(t *testing.T) {
	for _, l := range rightLabels() {
		s := mustPut(t, l)
		for _, behind := range []string{"", "x", "\x00", "\x01", "\xff", s, "\x01a\x00"} {
			got, rest, e := label.Take(s + behind)
			if e != api.OK || rest != behind || !slices.Equal(got, byNames(l)) {
				t.Errorf("Take(%q): %q %q %v", s+behind, got, rest, e)
			}
		}
	}
}

func noTake(t *testing.T, s string) {
	t.Helper()
	if l, rest, e := label.Take(s); len(l) != 0 || rest != "" || e != api.ErrForm {
		t.Errorf("Take(%q): %q %q %v", s, l, rest, e)
	}
}

func TestC2TakeCutOff(t *testing.T) {
	for _, l := range rightLabels() {
		s := mustPut(t, l)
		for size := range len(s) {
			noTake(t, s[:size])
		}
	}
}

func TestC2TakeWrong(t *testing.T) {
	nine := "\x09"
	for _, c := range "abcdefghi" {
		nine += "\x01" + string(c) + "\x00"
	}
	for _, s := range []string{
		"", nine, "\x09", "\x0a", "\x7f", "\xff", "\x80", "\x80\x00", "\x82\x00\x01a\x00\x01b\x00", "\x80\x02", "\x81\x02\x01a\x00",
		"\xff\xff\xff\xff\xff\xff\xff\xff\xff\x01", "\xff\xff\xff\xff\xff\xff\xff\xff\xff\x02", "\x81\x80\x80\x80\x10\x01a\x00",
		// out of order, twice
		"\x02\x01b\x00\x01a\x00", "\x02\x02aa\x00\x01a\x00", "\x02\x01a\x00\x01_\x00", "\x03\x01a\x00\x01c\x00\x01b\x00", "\x03\x01b\x00\x01c\x00\x01a\x00", "\x03\x01b\x00\x01a\x00\x01c\x00",
		"\x02\x01a\x00\x01a\x00", "\x02\x01a\x011\x01a\x012", "\x03\x01a\x00\x01b\x00\x01b\x00", "\x03\x01a\x00\x01b\x00\x01a\x00",
		// no name
		"\x01\x00\x00", "\x01\x00", "\x01\x011\x00", "\x01\x01A\x00", "\x01\x02a-\x00", "\x01\x02\xc3\xa4\x00", "\x02\x01a\x00\x00\x00", "\x02\x01a\x00\x02b \x00", "\x02\x01a\x00\x02b{\x00",
		"\x01\x15" + strings.Repeat("n", 21) + "\x00", "\x01\x81\x00a\x00", "\x01\xff\xff\xff\xff\xff\xff\xff\xff\xff\x01a\x00",
		// no value
		"\x01\x01a\x29" + longest + "v", "\x01\x01a\x81\x00v", "\x01\x01a\xff\xff\xff\xff\xff\xff\xff\xff\xff\x01v", "\x01\x01a\x02v",
		"\x02\x01a\x29" + longest + "v\x01b\x00",
	} {
		noTake(t, s)
	}
	noTake(t, nine+"\x01j\x00")
}

// What is taken was put so: of all short texts of these bytes, and of damaged ones.
func TestC2TakesNothingElse(t *testing.T) {
	const bytes = "\x00\x01\x02\x03a_0\x80"
	todo := []string{""}
	for len(todo) > 0 {
		s := todo[0]
		todo = todo[1:]
		takenWasPut(t, s)
		if len(s) < 6 {
			for i := range len(bytes) {
				todo = append(todo, s+bytes[i:i+1])
			}
		}
	}
	r := rand.New(rand.NewSource(5))
	for _, l := range rightLabels() {
		s := []byte(mustPut(t, l))
		for range 50 {
			damaged := slices.Clone(s)
			damaged[r.Intn(len(s))] += byte(1 + r.Intn(3)*r.Intn(100))
			takenWasPut(t, string(damaged))
		}
	}
}

func takenWasPut(t *testing.T, s string) {
	t.Helper()
	l, rest, e := label.Take(s)
	if e != api.OK {
		if e != api.ErrForm || len(l) != 0 || rest != "" {
			t.Errorf("Take(%q): %q %q %v", s, l, rest, e)
		}
		return
	}
	if put, e := label.Put(l); e != api.OK || put+rest != s {
		t.Errorf("Take(%q): %q %q, put as %q %v", s, l, rest, put, e)
	}
}

func FuzzTake(f *testing.F) {
	f.Add("\x02\x01a\x011\x01b\x012")
	f.Add("\x00behind")
	f.Fuzz(takenWasPut)
}

func TestC3Value(t *testing.T) {
	l := pairs("a", "1", "b", "", "a", "2", "", "none", "-", longest+"v", "", "other")
	for name, want := range map[string]string{
		"a": "1", "b": "", "c": "", "": "none", "-": longest + "v", "aa": "", "A": "", "1": "", "a\x00": "",
	} {
		if got := label.Value(l, name); got != want {
			t.Errorf("Value of %q: %q", name, got)
		}
	}
	if label.Value(nil, "a") != "" || label.Value([]api.Pair{}, "") != "" || label.Value(l[:0], "a") != "" {
		t.Error("a value of nothing")
	}
	if got := label.Value(l[1:], "a"); got != "2" {
		t.Errorf("%q", got)
	}
}

func TestC3Match(t *testing.T) {
	l := pairs("a", "1", "b", "", "a", "2", "-", "x")
	is := func(name, value string) label.Matcher { return label.Matcher{Name: name, Value: value} }
	not := func(name, value string) label.Matcher { return label.Matcher{Name: name, Value: value, Not: true} }
	for i, c := range []struct {
		m    []label.Matcher
		want bool
	}{
		{nil, true},
		{[]label.Matcher{}, true},
		{[]label.Matcher{is("a", "1")}, true},
		{[]label.Matcher{is("a", "2")}, false},
		{[]label.Matcher{is("a", "")}, false},
		{[]label.Matcher{not("a", "1")}, false},
		{[]label.Matcher{not("a", "2")}, true},
		{[]label.Matcher{not("a", "")}, true},
		{[]label.Matcher{is("b", "")}, true},
		{[]label.Matcher{not("b", "")}, false},
		{[]label.Matcher{is("none", "")}, true},
		{[]label.Matcher{is("none", "x")}, false},
		{[]label.Matcher{not("none", "")}, false},
		{[]label.Matcher{not("none", "x")}, true},
		{[]label.Matcher{{}}, true},
		{[]label.Matcher{{Not: true}}, false},
		{[]label.Matcher{is("-", "x")}, true},
		{[]label.Matcher{is("a", "1"), is("b", ""), not("none", "x")}, true},
		{[]label.Matcher{is("a", "1"), is("b", "x")}, false},
		{[]label.Matcher{is("b", "x"), is("a", "1")}, false},
		{[]label.Matcher{not("a", "1"), is("b", "")}, false},
		{[]label.Matcher{is("a", "1"), not("a", "2"), not("a", "3")}, true},
		{[]label.Matcher{is("a", "1"), is("a", "2")}, false},
		{[]label.Matcher{is("a", "1"), not("a", "1")}, false},
		{[]label.Matcher{is("a", "1"), is("a", "1")}, true},
	} {
		if got := label.Match(c.m, l); got != c.want {
			t.Errorf("%d: %v", i, got)
		}
	}
	if !label.Match(nil, nil) || !label.Match([]label.Matcher{is("a", "")}, nil) || label.Match([]label.Matcher{not("a", "")}, nil) {
		t.Error("of no labels")
	}
}

func TestC4InWhateverOrder(t *testing.T) {
	for _, l := range [][]api.Pair{
		nil, pairs("a", "1"), pairs("a", "1", "b", "1"), pairs("_", "", "a", "b", "aa", "a"), pairs("a", "1", "a0", "1", "a_", "2", "aa", "2", "b", "a"), some(6),
	} {
		want := mustPut(t, l)
		for _, o := range orders(l) {
			if got := mustPut(t, o); got != want {
				t.Errorf("%q: %q, not %q", o, got, want)
			}
		}
	}
	r := rand.New(rand.NewSource(4))
	for _, l := range rightLabels() {
		want, mixed := mustPut(t, l), slices.Clone(l)
		r.Shuffle(len(mixed), func(i, j int) { mixed[i], mixed[j] = mixed[j], mixed[i] })
		if got := mustPut(t, mixed); got != want {
			t.Errorf("%q: %q, not %q", mixed, got, want)
		}
	}
}

func TestC4OfOthersAnother(t *testing.T) {
	seen := map[string][]api.Pair{}
	others := append(rightLabels(), pairs("a", "b"), pairs("ab", ""), pairs("a", "", "b", ""), pairs("b", "a"), pairs("a", "\x01b\x00"), pairs("a", "1", "b", "2"), pairs("a", "2", "b", "1"))
	for _, l := range others {
		s, canon := mustPut(t, l), byNames(l)
		if other, ok := seen[s]; ok && !slices.Equal(other, canon) {
			t.Errorf("%q and %q: %q", other, canon, s)
		}
		seen[s] = canon
	}
}
