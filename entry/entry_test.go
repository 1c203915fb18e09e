package entry_test

import (
	"encoding/binary"
	"maps"
	"math"
	"math/rand"
	"slices"
	"strings"
	"testing"

	"postroom/api"
	"postroom/entry"
	"postroom/label"
	"postroom/sample"
)

var (
	longName  = strings.Repeat("n", 20)
	longValue = strings.Repeat("v", 40)
)

// pairs are names and values by turns.
func pairs(texts ...string) []api.Pair {
	var out []api.Pair
	for i := 0; i+1 < len(texts); i += 2 {
		out = append(out, api.Pair{Name: texts[i], Value: texts[i+1]})
	}
	return out
}

// falling are so many right labels, their names in the wrong order if there are more than one.
func falling(n int) []api.Pair {
	var out []api.Pair
	for i := range n {
		out = append(out, api.Pair{Name: string(rune('a' + n - i)), Value: strings.Repeat("x", i)})
	}
	return out
}

// at are samples at those times, each of another value.
func at(times ...uint64) []api.Sample {
	var out []api.Sample
	for i, x := range times {
		out = append(out, api.Sample{At: x, Value: int64(i*i) - 3})
	}
	return out
}

// rising are so many right samples.
func rising(n int) []api.Sample {
	var out []api.Sample
	for i := range n {
		out = append(out, api.Sample{At: uint64(5 + 2*i), Value: int64(-i)})
	}
	return out
}

func of(l []api.Pair, x []api.Sample) api.Entry { return api.Entry{Labels: l, Samples: x} }

func same(a, b api.Entry) bool {
	return slices.Equal(a.Labels, b.Labels) && slices.Equal(a.Samples, b.Samples)
}

func isNothing(x api.Entry) bool { return len(x.Labels) == 0 && len(x.Samples) == 0 }

func copied(x api.Entry) api.Entry { return of(slices.Clone(x.Labels), slices.Clone(x.Samples)) }

// byNames is how labels are put in order, as the words say it, by a map.
func byNames(l []api.Pair) []api.Pair {
	values := map[string]string{}
	for _, p := range l {
		values[p.Name] = p.Value
	}
	return sorted(values)
}

func sorted(values map[string]string) []api.Pair {
	var out []api.Pair
	for _, name := range slices.Sorted(maps.Keys(values)) {
		out = append(out, api.Pair{Name: name, Value: values[name]})
	}
	return out
}

// written are an entry's bytes, its labels in the order they have, its samples whether they rise or not.
func written(x api.Entry) string {
	out := binary.AppendUvarint(nil, uint64(len(x.Labels)))
	for _, p := range x.Labels {
		out = append(binary.AppendUvarint(out, uint64(len(p.Name))), p.Name...)
		out = append(binary.AppendUvarint(out, uint64(len(p.Value))), p.Value...)
	}
	out = binary.AppendUvarint(out, uint64(len(x.Samples)))
	var step uint64
	for i, y := range x.Samples {
		if i == 0 {
			out = binary.AppendVarint(binary.AppendUvarint(out, y.At), y.Value)
			continue
		}
		ahead := x.Samples[i-1]
		out = binary.AppendVarint(out, int64(y.At-ahead.At-step))
		out = binary.AppendVarint(out, y.Value-ahead.Value)
		step = y.At - ahead.At
	}
	return string(out)
}

// chance is a right entry, the same for each source.
func chance(r *rand.Rand) api.Entry {
	values := map[string]string{}
	for range r.Intn(9) {
		value := make([]byte, r.Intn(3)*r.Intn(21))
		r.Read(value)
		values[string(rune('a'+r.Intn(26)))+strings.Repeat("_", r.Intn(20))] = string(value)
	}
	l := sorted(values)
	r.Shuffle(len(l), func(i, j int) { l[i], l[j] = l[j], l[i] })
	var times []uint64
	for range 1 + r.Intn(20) {
		times = append(times, r.Uint64()>>r.Intn(64))
	}
	slices.Sort(times)
	x := at(slices.Compact(times)...)
	for i := range x {
		x[i].Value = int64(r.Uint64()) >> r.Intn(64)
	}
	return of(l, x)
}

func rightEntries() []api.Entry {
	var most []api.Pair
	for i := range 8 {
		most = append(most, api.Pair{Name: longName[1:] + string(rune('z'-i)), Value: longValue})
	}
	far := at(0, math.MaxUint64)
	far[0].Value, far[1].Value = math.MinInt64, math.MaxInt64
	out := []api.Entry{
		of(nil, at(0)), of([]api.Pair{}, at(1)), of(nil, rising(20)), of(nil, far),
		of(pairs("a", "1"), at(5)), of(pairs("b", "2", "a", "1"), at(5, 7)), of(pairs("a", "1", "b", "2"), at(5, 7)),
		of(pairs("a", ""), far), of(pairs("_", "\x00", "a0", "\xff", "a", ""), at(math.MaxUint64)), of(pairs(longName, longValue), at(1, 2, 4)),
		of(falling(1), rising(1)), of(falling(7), rising(19)), of(falling(8), rising(1)), of(falling(8), rising(20)), of(falling(1), rising(20)), of(most, rising(20)),
	}
	r := rand.New(rand.NewSource(5))
	for range 300 {
		out = append(out, chance(r))
	}
	return out
}

// wrongPart is one for which its layer's Check tells an error: wrongLabels and wrongSamples have some of each error.
type wrongPart[T any] struct {
	l    []T
	want api.Errno
}

func wrongLabels() []wrongPart[api.Pair] {
	return []wrongPart[api.Pair]{
		{falling(9), api.ErrMany},
		{make([]api.Pair, 1000), api.ErrMany},
		{pairs("", ""), api.ErrName},
		{pairs("a", "1", "B", "2"), api.ErrName},
		{pairs(longName+"n", ""), api.ErrName},
		{pairs("a", longValue+"v"), api.ErrLong},
		{append(falling(7), api.Pair{Name: "a", Value: longValue + "v"}), api.ErrLong},
		{pairs("a", "1", "a", "1"), api.ErrThere},
		{pairs("b", "1", "a", "1", "b", "2"), api.ErrThere},
		// of several errors the first one
		{make([]api.Pair, 9), api.ErrMany},
		{pairs("", longValue+"v"), api.ErrName},
		{pairs("a", "", "a", longValue+"v"), api.ErrLong},
		{pairs("a", "", "a", "", "", ""), api.ErrThere},
	}
}

func wrongSamples() []wrongPart[api.Sample] {
	return []wrongPart[api.Sample]{
		{nil, api.ErrMany},
		{[]api.Sample{}, api.ErrMany},
		{rising(21), api.ErrMany},
		{make([]api.Sample, 1000), api.ErrMany},
		{at(1, 1), api.ErrOrder},
		{at(2, 1), api.ErrOrder},
		{at(1, 2, 2), api.ErrOrder},
		{at(math.MaxUint64, 0), api.ErrOrder},
		{make([]api.Sample, 20), api.ErrOrder},
	}
}

func mustPut(t *testing.T, x api.Entry) string {
	t.Helper()
	s, e := entry.Put(x)
	if e != api.OK || entry.Check(x) != api.OK {
		t.Fatalf("Put(%v): %v", x, e)
	}
	return s
}

func mustSeries(t *testing.T, x api.Entry) string {
	t.Helper()
	s, e := entry.Series(x)
	if e != api.OK {
		t.Fatalf("Series(%v): %v", x, e)
	}
	return s
}

// refused holds each call against an entry that is not right.
func refused(t *testing.T, x api.Entry, want api.Errno) {
	t.Helper()
	if e := entry.Check(x); e != want {
		t.Errorf("Check(%v): %v, not %v", x, e, want)
	}
	if s, e := entry.Put(x); e != want || s != "" {
		t.Errorf("Put(%v): %q %v, not %v", x, s, e, want)
	}
	if got, is := entry.Only(x, nil, 0, math.MaxUint64); is || !isNothing(got) {
		t.Errorf("Only(%v): %v", x, got)
	}
}

func TestE1CheckHowMany(t *testing.T) {
	for labels := range 12 {
		for samples := range 25 {
			want := api.ErrMany
			if labels <= 8 && samples >= 1 && samples <= 20 {
				want = api.OK
			}
			x := of(falling(labels), rising(samples))
			if e := entry.Check(x); e != want {
				t.Error(labels, samples, e)
			}
			if s, e := entry.Put(x); e != want || (s != "") != (e == api.OK) {
				t.Error(labels, samples, s, e)
			}
		}
	}
}

func TestE1OneWrong(t *testing.T) {
	refused(t, api.Entry{}, api.ErrMany)
	for _, l := range wrongLabels() {
		refused(t, of(l.l, at(1)), l.want)
		refused(t, of(l.l, rising(20)), l.want)
	}
	for _, x := range wrongSamples() {
		refused(t, of(nil, x.l), x.want)
		refused(t, of(pairs("b", "2", "a", "1"), x.l), x.want)
		refused(t, of(falling(8), x.l), x.want)
	}
}

func TestE1BothWrong(t *testing.T) {
	for _, l := range wrongLabels() {
		for _, x := range wrongSamples() {
			refused(t, of(l.l, x.l), l.want)
		}
	}
}

func TestE1Put(t *testing.T) {
	for i, c := range []struct {
		x    api.Entry
		want string
	}{
		{of(pairs("a", "1"), []api.Sample{{At: 5, Value: 2}}), "\x01\x01a\x011\x01\x05\x04"},
		{of(nil, []api.Sample{{}}), "\x00\x01\x00\x00"},
		{of([]api.Pair{}, []api.Sample{{At: 300, Value: -1}}), "\x00\x01\xac\x02\x01"},
		{of(pairs("b", "2", "a", "1"), []api.Sample{{At: 5, Value: 2}, {At: 7, Value: 1}}), "\x02\x01a\x011\x01b\x012\x02\x05\x04\x04\x01"},
		{of(pairs("a", ""), []api.Sample{{At: 100, Value: 7}, {At: 110, Value: 7}, {At: 120, Value: 5}}), "\x01\x01a\x00\x03\x64\x0e\x14\x00\x00\x03"},
	} {
		if got, e := entry.Put(c.x); got != c.want || e != api.OK {
			t.Errorf("%d: %q %v", i, got, e)
		}
	}
}

func TestE1PutByParts(t *testing.T) {
	for _, x := range rightEntries() {
		got := mustPut(t, x)
		labels, e := label.Put(x.Labels)
		samples, f := sample.Put(x.Samples)
		if e != api.OK || f != api.OK || got != labels+samples {
			t.Errorf("Put(%v): %q, not %q and %q", x, got, labels, samples)
		}
		if want := written(of(byNames(x.Labels), x.Samples)); got != want {
			t.Errorf("Put(%v): %q, not %q", x, got, want)
		}
	}
}

func noTake(t *testing.T, s string) {
	t.Helper()
	if x, e := entry.Take(s); e != api.ErrForm || !isNothing(x) {
		t.Errorf("Take(%q): %v %v", s, x, e)
	}
}

// Wherever it is cut: in the labels, between the parts, in the samples.
func TestE1TakeCutOff(t *testing.T) {
	for _, x := range rightEntries() {
		s := mustPut(t, x)
		for size := range len(s) {
			noTake(t, s[:size])
		}
		noTake(t, mustSeries(t, x))
		samples, _ := sample.Put(x.Samples)
		noTake(t, s[1:])
		if len(x.Labels) > 0 {
			noTake(t, mustSeries(t, x)[1:]+samples)
		}
	}
}

func TestE1TakeMoreBehind(t *testing.T) {
	for _, x := range rightEntries() {
		s := mustPut(t, x)
		for b := range 256 {
			noTake(t, s+string([]byte{byte(b)}))
		}
		samples, _ := sample.Put(x.Samples)
		for _, behind := range []string{"\x00\x00", samples, s, mustSeries(t, x)} {
			noTake(t, s+behind)
		}
		noTake(t, samples+mustSeries(t, x))
	}
}

func TestE1TakeWrongLabels(t *testing.T) {
	for _, l := range [][]api.Pair{
		pairs("b", "2", "a", "1"), pairs("aa", "", "a", ""), pairs("a", "", "_", ""), pairs("a", "", "c", "", "b", ""), falling(2), falling(8),
	} {
		noTake(t, written(of(l, at(5))))
		noTake(t, written(of(l, rising(20))))
		if x, e := entry.Take(written(of(byNames(l), at(5)))); e != api.OK || !same(x, of(byNames(l), at(5))) {
			t.Errorf("%v: %v %v", l, x, e)
		}
	}
	for _, l := range wrongLabels() {
		noTake(t, written(of(l.l, at(5))))
		noTake(t, written(of(byNames(l.l), nil)))
	}
	noTake(t, written(of(byNames(falling(9)), at(5))))
}

func TestE1TakeWrongSamples(t *testing.T) {
	for _, l := range [][]api.Pair{nil, pairs("a", "1"), byNames(falling(8))} {
		for _, x := range wrongSamples() {
			noTake(t, written(of(l, x.l)))
		}
		for _, times := range [][]uint64{{0, 0}, {5, 5}, {5, 4}, {math.MaxUint64, math.MaxUint64}, {1, 3, 2}, {1, 3, 3}, {3, 1, 2}, {1 << 63, 0}} {
			noTake(t, written(of(l, at(times...))))
		}
	}
}

// Numbers that have more groups than needed, in each part.
func TestE1TakeNoNumber(t *testing.T) {
	numbers := []string{"\x01", "\x01", "a\x01", "1\x01", "\x05", "\x04"}
	if x, e := entry.Take(strings.Join(numbers, "")); e != api.OK || !same(x, of(pairs("a", "1"), []api.Sample{{At: 5, Value: 2}})) {
		t.Fatal(x, e)
	}
	for i, n := range numbers {
		last := len(n) - 1
		for _, none := range []string{string([]byte{n[last] | 0x80, 0}), "\xff\xff\xff\xff\xff\xff\xff\xff\xff\x02", "\x80"} {
			wrong := slices.Clone(numbers)
			wrong[i] = n[:last] + none
			noTake(t, strings.Join(wrong, ""))
		}
	}
}

func TestE2Series(t *testing.T) {
	for _, x := range rightEntries() {
		want, _ := label.Put(x.Labels)
		if got, e := entry.Series(x); e != api.OK || got != want || got == "" {
			t.Errorf("Series(%v): %q %v", x, got, e)
		}
	}
	if got, e := entry.Series(api.Entry{}); got != "\x00" || e != api.OK {
		t.Errorf("%q %v", got, e)
	}
	if got, e := entry.Series(of(pairs("b", "2", "a", "1"), at(5))); got != "\x02\x01a\x011\x01b\x012" || e != api.OK {
		t.Errorf("%q %v", got, e)
	}
}

// Its labels alone count, whatever the samples are.
func TestE2SeriesOfWrong(t *testing.T) {
	for _, x := range wrongSamples() {
		if got, e := entry.Series(of(pairs("b", "", "a", ""), x.l)); got != "\x02\x01a\x00\x01b\x00" || e != api.OK {
			t.Errorf("%v: %q %v", x.l, got, e)
		}
		for _, l := range wrongLabels() {
			if got, e := entry.Series(of(l.l, x.l)); got != "" || e != l.want {
				t.Errorf("%v: %q %v, not %v", l.l, got, e, l.want)
			}
		}
	}
	for _, l := range wrongLabels() {
		if got, e := entry.Series(of(l.l, at(1))); got != "" || e != l.want {
			t.Errorf("%v: %q %v, not %v", l.l, got, e, l.want)
		}
	}
}

func TestE2OnlyBetween(t *testing.T) {
	x := of(pairs("b", "2", "a", "1"), at(5, 7, 9, math.MaxUint64))
	for i, c := range []struct {
		from, to uint64
		want     []int
	}{
		{0, math.MaxUint64, []int{0, 1, 2, 3}},
		{5, math.MaxUint64, []int{0, 1, 2, 3}},
		{0, math.MaxUint64 - 1, []int{0, 1, 2}},
		{5, 9, []int{0, 1, 2}},
		{6, 9, []int{1, 2}},
		{5, 8, []int{0, 1}},
		{6, 8, []int{1}},
		{7, 7, []int{1}},
		{0, 5, []int{0}},
		{5, 5, []int{0}},
		{10, math.MaxUint64, []int{3}},
		{math.MaxUint64, math.MaxUint64, []int{3}},
		{0, 4, nil},
		{0, 0, nil},
		{6, 6, nil},
		{8, 8, nil},
		{10, math.MaxUint64 - 1, nil},
		// from above to
		{9, 5, nil},
		{7, 6, nil},
		{6, 5, nil},
		{math.MaxUint64, 0, nil},
	} {
		var want api.Entry
		for _, j := range c.want {
			want.Labels = pairs("a", "1", "b", "2")
			want.Samples = append(want.Samples, x.Samples[j])
		}
		for _, m := range [][]label.Matcher{nil, {}, {{Name: "a", Value: "1"}}, {{Name: "b", Value: "1", Not: true}, {Name: "none"}}} {
			if got, is := entry.Only(x, m, c.from, c.to); is != (c.want != nil) || !same(got, want) {
				t.Errorf("%d: %v %v", i, got, is)
			}
		}
	}
}

func TestE2OnlyMatch(t *testing.T) {
	x := of(pairs("b", "2", "a", "1", "c", ""), at(5, 7))
	is := func(name, value string) label.Matcher { return label.Matcher{Name: name, Value: value} }
	not := func(name, value string) label.Matcher { return label.Matcher{Name: name, Value: value, Not: true} }
	for i, c := range []struct {
		m    []label.Matcher
		want bool
	}{
		{nil, true},
		{[]label.Matcher{}, true},
		{[]label.Matcher{is("a", "1")}, true},
		{[]label.Matcher{is("a", "2")}, false},
		{[]label.Matcher{not("a", "1")}, false},
		{[]label.Matcher{not("a", "2")}, true},
		{[]label.Matcher{is("b", "2"), is("a", "1")}, true},
		{[]label.Matcher{is("b", "2"), is("a", "2")}, false},
		{[]label.Matcher{is("b", "1"), is("a", "1")}, false},
		{[]label.Matcher{is("c", ""), is("none", ""), is("", "")}, true},
		{[]label.Matcher{not("none", "")}, false},
		{[]label.Matcher{not("none", "x"), not("-", "x")}, true},
		{[]label.Matcher{is("none", "x")}, false},
	} {
		got, ok := entry.Only(x, c.m, 6, 9)
		var want api.Entry
		if c.want {
			want = of(pairs("a", "1", "b", "2", "c", ""), x.Samples[1:])
		}
		if ok != c.want || !same(got, want) {
			t.Errorf("%d: %v %v", i, got, ok)
		}
		if got, ok := entry.Only(x, c.m, 8, 9); ok || !isNothing(got) {
			t.Errorf("%d: of no samples: %v", i, got)
		}
	}
	if got, ok := entry.Only(of(nil, at(5)), []label.Matcher{is("a", ""), not("a", "1")}, 5, 5); !ok || !same(got, of(nil, at(5))) {
		t.Errorf("of no labels: %v %v", got, ok)
	}
}

// An entry that is not right is nothing, though its labels match, and samples of it are between.
func TestE2OnlyOfWrong(t *testing.T) {
	match := []label.Matcher{{Name: "a", Value: "", Not: true}}
	for _, x := range []api.Entry{
		{}, of(pairs("a", "1"), nil), of(pairs("a", "1"), rising(21)), of(pairs("a", "1"), at(5, 5)), of(pairs("a", "1"), at(1, 5, 3)),
		of(pairs("a", "1", "a", "1"), at(5)), of(pairs("a", "1", "", ""), at(5)), of(pairs("a", longValue+"v"), at(5)), of(append(pairs("a", "1"), falling(8)...), at(5)),
	} {
		for _, m := range [][]label.Matcher{nil, match} {
			if got, is := entry.Only(x, m, 5, 5); is || !isNothing(got) {
				t.Errorf("Only(%v): %v", x, got)
			}
			if got, is := entry.Only(x, m, 0, math.MaxUint64); is || !isNothing(got) {
				t.Errorf("Only(%v): %v", x, got)
			}
		}
	}
}

func TestE2OnlyOfEach(t *testing.T) {
	for _, x := range rightEntries() {
		first, last := x.Samples[0].At, x.Samples[len(x.Samples)-1].At
		if got, is := entry.Only(x, nil, first, last); !is || !same(got, of(byNames(x.Labels), x.Samples)) {
			t.Errorf("Only(%v): %v %v", x, got, is)
		}
		for _, one := range x.Samples {
			if got, is := entry.Only(x, nil, one.At, one.At); !is || !same(got, of(byNames(x.Labels), []api.Sample{one})) {
				t.Errorf("Only(%v) at %d: %v %v", x, one.At, got, is)
			}
		}
		for _, p := range x.Labels {
			if got, is := entry.Only(x, []label.Matcher{{Name: p.Name, Value: p.Value + "x"}}, first, last); is || !isNothing(got) {
				t.Errorf("Only(%v): %v", x, got)
			}
		}
	}
}

func TestE3WhatWasPutIsTaken(t *testing.T) {
	for _, x := range rightEntries() {
		s := mustPut(t, x)
		got, e := entry.Take(s)
		if e != api.OK || !same(got, of(byNames(x.Labels), x.Samples)) {
			t.Errorf("Take(%q): %v %v", s, got, e)
		}
	}
}

func takenWasPut(t *testing.T, s string) {
	t.Helper()
	x, e := entry.Take(s)
	if e != api.OK {
		if e != api.ErrForm || !isNothing(x) {
			t.Errorf("Take(%q): %v %v", s, x, e)
		}
		return
	}
	if put, e := entry.Put(x); e != api.OK || put != s || !slices.Equal(x.Labels, byNames(x.Labels)) {
		t.Errorf("Take(%q): %v, put as %q %v", s, x, put, e)
	}
}

// Of all short texts of these bytes, and of damaged ones.
func TestE3WhatIsTakenWasPut(t *testing.T) {
	const bytes = "\x00\x01\x02\x03ab\x80"
	todo := []string{""}
	for len(todo) > 0 {
		s := todo[0]
		todo = todo[1:]
		takenWasPut(t, s)
		if len(s) < 6 {
			for i := range len(bytes) {
				todo = append(todo, s+bytes[i:i+1])
			}
		}
	}
	r := rand.New(rand.NewSource(6))
	for _, x := range rightEntries() {
		s := []byte(mustPut(t, x))
		for range 50 {
			damaged := slices.Clone(s)
			damaged[r.Intn(len(s))] += byte(1 + r.Intn(3)*r.Intn(100))
			takenWasPut(t, string(damaged))
		}
	}
}

func FuzzTake(f *testing.F) {
	f.Add("\x02\x01a\x011\x01b\x012\x02\x05\x04\x04\x01")
	f.Add("\x00\x01\x00\x00")
	f.Fuzz(takenWasPut)
}

// orders are all orders of a list.
func orders(l []api.Pair) [][]api.Pair {
	if len(l) == 0 {
		return [][]api.Pair{nil}
	}
	var out [][]api.Pair
	for _, o := range orders(l[1:]) {
		for i := range len(l) {
			out = append(out, slices.Insert(slices.Clone(o), i, l[0]))
		}
	}
	return out
}

func TestE3InWhateverOrder(t *testing.T) {
	for _, l := range [][]api.Pair{pairs("a", "1", "b", "1"), pairs("_", "", "a", "b", "aa", "a"), pairs("a", "1", "a0", "1", "a_", "2", "aa", "2", "b", "a")} {
		x := of(l, at(5, 7))
		series, put := mustSeries(t, x), mustPut(t, x)
		for _, o := range orders(l) {
			y := of(o, at(5, 7))
			if mustPut(t, y) != put || mustSeries(t, y) != series || mustSeries(t, of(o, at(9))) != series {
				t.Errorf("%v: another series than %v", o, l)
			}
			if got, e := entry.Take(mustPut(t, y)); e != api.OK || !same(got, of(byNames(l), at(5, 7))) {
				t.Errorf("%v: %v %v", o, got, e)
			}
			if got, is := entry.Only(y, nil, 7, 8); !is || !same(got, of(byNames(l), y.Samples[1:])) {
				t.Errorf("%v: %v %v", o, got, is)
			}
		}
	}
}

func TestE3OfOthersAnother(t *testing.T) {
	bySeries, byBytes := map[string][]api.Pair{}, map[string]api.Entry{}
	for _, l := range [][]api.Pair{nil, pairs("a", ""), pairs("a", "1"), pairs("a", "b"), pairs("ab", ""), pairs("b", "a"), pairs("a", "", "b", ""), pairs("a", "\x01b\x00"), pairs("a", "1", "b", "2"), pairs("a", "2", "b", "1")} {
		for _, x := range [][]api.Sample{at(0), at(1), at(1, 2), at(1, 3), rising(3)} {
			e := of(l, x)
			series, put := mustSeries(t, e), mustPut(t, e)
			if other, ok := bySeries[series]; ok && !slices.Equal(other, l) {
				t.Errorf("%v and %v are of one series", other, l)
			}
			if other, ok := byBytes[put]; ok {
				t.Errorf("%v and %v are put as %q", other, e, put)
			}
			bySeries[series], byBytes[put] = l, e
		}
	}
}

// beyond is x, with more behind the length of each list.
func beyond(x api.Entry) (part, whole api.Entry) {
	p, y := api.Pair{Name: "behind", Value: "the length"}, api.Sample{At: 1, Value: 1 << 40}
	whole = of(append(slices.Clone(x.Labels), p, p), append(slices.Clone(x.Samples), y, y))
	return of(whole.Labels[:len(x.Labels)], whole.Samples[:len(x.Samples)]), whole
}

// spoil writes into all of it, and behind it.
func spoil(x api.Entry) {
	for i := range x.Labels {
		x.Labels[i] = api.Pair{Name: "written", Value: "into"}
	}
	for i := range x.Samples {
		x.Samples[i] = api.Sample{At: 77, Value: 77}
	}
	_ = append(x.Labels, pairs("and", "behind")...)
	_ = append(x.Samples, api.Sample{At: 78})
}

func callEach(x api.Entry, m []label.Matcher) api.Entry {
	entry.Check(x)
	entry.Put(x)
	entry.Series(x)
	got, _ := entry.Only(x, m, 0, math.MaxUint64)
	return got
}

func TestListsAreNotWritten(t *testing.T) {
	entries := rightEntries()
	for _, l := range wrongLabels() {
		entries = append(entries, of(l.l, at(3, 4)))
	}
	for _, x := range wrongSamples() {
		entries = append(entries, of(pairs("b", "2", "a", "1"), x.l))
	}
	for _, x := range entries {
		part, whole := beyond(x)
		before := copied(whole)
		m := []label.Matcher{{Name: "none", Value: ""}, {Name: "a", Value: "none", Not: true}, {Name: "behind", Value: "the length"}}
		asked := slices.Clone(m)
		spoil(callEach(part, m[:2]))
		if !same(whole, before) || !slices.Equal(m, asked) {
			t.Errorf("%v: %v %v", before, whole, m)
		}
	}
}

// What was answered does not change with what was handed in, nor with another answer.
func TestListsAreNotKept(t *testing.T) {
	for _, x := range rightEntries() {
		handed, want := copied(x), of(byNames(x.Labels), x.Samples)
		got, is := entry.Only(handed, nil, 0, math.MaxUint64)
		spoil(handed)
		if !is || !same(got, want) {
			t.Errorf("Only(%v): %v %v", x, got, is)
		}
		s := mustPut(t, x)
		first, _ := entry.Take(s)
		spoil(first)
		if again, e := entry.Take(s); e != api.OK || !same(again, want) {
			t.Errorf("Take(%q): %v %v", s, again, e)
		}
	}
}
