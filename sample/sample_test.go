package sample_test

import (
	"encoding/binary"
	"math"
	"math/big"
	"math/rand"
	"slices"
	"strings"
	"testing"

	"postroom/api"
	"postroom/sample"
)

const most = 20

// at are samples at those times, each of another value.
func at(times ...uint64) []api.Sample {
	var out []api.Sample
	for i, x := range times {
		out = append(out, api.Sample{At: x, Value: int64(i*i) - 3})
	}
	return out
}

// of are samples of those values, at times that are 10 apart.
func of(values ...int64) []api.Sample {
	var out []api.Sample
	for i, v := range values {
		out = append(out, api.Sample{At: uint64(10 * i), Value: v})
	}
	return out
}

// rising are so many right samples, at times that are one apart.
func rising(n int) []api.Sample {
	out := make([]api.Sample, n)
	for i := range out {
		out[i] = api.Sample{At: uint64(5 + i), Value: int64(-i)}
	}
	return out
}

// word is a number of 64 bits of any size.
func word(r *rand.Rand) uint64 { return r.Uint64() >> r.Intn(64) }

// chance are right samples: of times and values that are near or far, the same for each source.
func chance(r *rand.Rand) []api.Sample {
	var times []uint64
	for range 1 + r.Intn(most) {
		times = append(times, word(r))
	}
	slices.Sort(times)
	var out []api.Sample
	for _, x := range slices.Compact(times) {
		v := int64(word(r))
		if r.Intn(2) == 0 {
			v = -v
		}
		out = append(out, api.Sample{At: x, Value: v})
	}
	return out
}

func rightSamples() [][]api.Sample {
	out := [][]api.Sample{
		at(0), at(1), at(math.MaxUint64), of(math.MinInt64), of(math.MaxInt64), of(0), of(-1), of(1),
		at(100, 110, 120), at(0, 1), at(5, 6, 7, 8), at(math.MaxUint64-1, math.MaxUint64), at(0, math.MaxUint64),
		at(0, 1, math.MaxUint64), at(0, math.MaxUint64-1, math.MaxUint64), at(0, 1<<63-1), at(0, 1<<63), at(0, 1<<63+1), at(0, 1<<63, 1<<63+1), at(1, 2, 1<<63+3),
		at(0, 1, 3, 6, 10, 15), at(0, 50, 90, 120, 140, 150, 151), at(1, 2, 4, 8, 16, 32), at(7, 14, 21, 28), at(1, 10, 11, 20, 21, 30),
		of(math.MinInt64, math.MaxInt64), of(math.MaxInt64, math.MinInt64), of(math.MinInt64, math.MaxInt64, math.MinInt64), of(0, math.MinInt64), of(math.MinInt64, 0),
		of(-1, math.MaxInt64), of(0, math.MaxInt64), of(1, math.MinInt64), of(1<<62, -1<<62), of(-1<<62, 1<<62), of(5, 5, 5), of(3, 2, 1, 0, -1, -2),
		rising(1), rising(2), rising(19), rising(20),
	}
	r := rand.New(rand.NewSource(4))
	for range 500 {
		out = append(out, chance(r))
	}
	return out
}

// signed is a whole number, gone round till it is one of 64 bits with a sign.
func signed(n *big.Int) int64 {
	round := new(big.Int).Lsh(big.NewInt(1), 64)
	n = new(big.Int).Mod(n, round)
	if n.Bit(63) == 1 {
		n.Sub(n, round)
	}
	return n.Int64()
}

// byWords are the bytes as the promise tells them, in numbers that have no bounds.
func byWords(l []api.Sample) string {
	time := func(i int) *big.Int { return new(big.Int).SetUint64(l[i].At) }
	step := func(i int) *big.Int {
		if i == 0 {
			return big.NewInt(0)
		}
		return new(big.Int).Sub(time(i), time(i-1))
	}
	out := binary.AppendUvarint(nil, uint64(len(l)))
	out = binary.AppendUvarint(out, l[0].At)
	out = binary.AppendVarint(out, l[0].Value)
	for i := 1; i < len(l); i++ {
		out = binary.AppendVarint(out, signed(new(big.Int).Sub(step(i), step(i-1))))
		out = binary.AppendVarint(out, signed(new(big.Int).Sub(big.NewInt(l[i].Value), big.NewInt(l[i-1].Value))))
	}
	return string(out)
}

// written are the bytes of so many samples, the first one's time, and signed numbers behind that.
func written(n, first uint64, others ...int64) string {
	out := binary.AppendUvarint(binary.AppendUvarint(nil, n), first)
	for _, x := range others {
		out = binary.AppendVarint(out, x)
	}
	return string(out)
}

func mustPut(t *testing.T, l []api.Sample) string {
	t.Helper()
	s, e := sample.Put(l)
	if e != api.OK || sample.Check(l) != api.OK {
		t.Fatalf("Put(%v): %v", l, e)
	}
	return s
}

func TestD1CheckHowMany(t *testing.T) {
	for n := range 300 {
		want := api.ErrMany
		if n >= 1 && n <= most {
			want = api.OK
		}
		if e := sample.Check(rising(n)); e != want {
			t.Error(n, e)
		}
	}
	for _, l := range rightSamples() {
		if e := sample.Check(l); e != api.OK {
			t.Error(l, e)
		}
	}
}

func TestD1CheckAndPutTellTheSame(t *testing.T) {
	falling := rising(21)
	slices.Reverse(falling)
	for i, c := range []struct {
		l    []api.Sample
		want api.Errno
	}{
		{nil, api.ErrMany},
		{[]api.Sample{}, api.ErrMany},
		{rising(21), api.ErrMany},
		{make([]api.Sample, 100000), api.ErrMany},
		{at(1, 1), api.ErrOrder},
		{at(0, 0), api.ErrOrder},
		{at(math.MaxUint64, math.MaxUint64), api.ErrOrder},
		{at(2, 1), api.ErrOrder},
		{at(math.MaxUint64, 0), api.ErrOrder},
		{at(1<<63, 1<<63-1), api.ErrOrder},
		{at(1, 3, 2), api.ErrOrder},
		{at(1, 3, 3), api.ErrOrder},
		{at(3, 1, 2), api.ErrOrder},
		{at(2, 2, 3), api.ErrOrder},
		{at(1, 3, 2, 4), api.ErrOrder},
		{make([]api.Sample, 2), api.ErrOrder},
		{falling[1:], api.ErrOrder},
		{make([]api.Sample, 20), api.ErrOrder},
		// too many, and in no order
		{falling, api.ErrMany},
		{make([]api.Sample, 21), api.ErrMany},
		{append(rising(20), api.Sample{}), api.ErrMany},
	} {
		if e := sample.Check(c.l); e != c.want {
			t.Errorf("%d: Check: %v", i, e)
		}
		if s, e := sample.Put(c.l); e != c.want || s != "" {
			t.Errorf("%d: Put: %q %v", i, s, e)
		}
	}
}

func TestD1CheckAtEachPlace(t *testing.T) {
	for size := 2; size <= most; size++ {
		for i := 1; i < size; i++ {
			for _, less := range []uint64{0, 1, 5} {
				l := rising(size)
				l[i].At = l[i-1].At - less
				if e := sample.Check(l); e != api.ErrOrder {
					t.Error(size, i, less, e)
				}
			}
		}
	}
}

func TestD2Put(t *testing.T) {
	for i, c := range []struct {
		l    []api.Sample
		want string
	}{
		{[]api.Sample{{At: 100, Value: 7}, {At: 110, Value: 7}, {At: 120, Value: 5}}, "\x03\x64\x0e\x14\x00\x00\x03"},
		{[]api.Sample{{}}, "\x01\x00\x00"},
		{[]api.Sample{{At: 300, Value: -1}}, "\x01\xac\x02\x01"},
		{[]api.Sample{{At: math.MaxUint64, Value: math.MaxInt64}}, "\x01\xff\xff\xff\xff\xff\xff\xff\xff\xff\x01\xfe\xff\xff\xff\xff\xff\xff\xff\xff\x01"},
		// the first step is held against 0, not against the first time
		{[]api.Sample{{At: 50}, {At: 51}}, "\x02\x32\x00\x02\x00"},
		// steps 1, 2, 3 grow; 3, 2, 1 shrink; 4, 4 stay
		{[]api.Sample{{At: 0}, {At: 1}, {At: 3}, {At: 6}}, "\x04\x00\x00\x02\x00\x02\x00\x02\x00"},
		{[]api.Sample{{At: 0}, {At: 3}, {At: 5}, {At: 6}}, "\x04\x00\x00\x06\x00\x01\x00\x01\x00"},
		{[]api.Sample{{At: 9}, {At: 13}, {At: 17}}, "\x03\x09\x00\x08\x00\x00\x00"},
		// all goes round
		{[]api.Sample{{At: 0, Value: math.MinInt64}, {At: math.MaxUint64, Value: math.MaxInt64}}, "\x02\x00\xff\xff\xff\xff\xff\xff\xff\xff\xff\x01\x01\x01"},
		{[]api.Sample{{At: 0, Value: math.MaxInt64}, {At: 1, Value: math.MinInt64}, {At: math.MaxUint64, Value: math.MaxInt64}}, "\x03\x00\xfe\xff\xff\xff\xff\xff\xff\xff\xff\x01\x02\x02\x05\x01"},
	} {
		if got, e := sample.Put(c.l); got != c.want || e != api.OK {
			t.Errorf("%d: %q %v", i, got, e)
		}
	}
}

func TestD2PutByWords(t *testing.T) {
	for _, l := range rightSamples() {
		if got, want := mustPut(t, l), byWords(l); got != want {
			t.Errorf("Put(%v): %q, not %q", l, got, want)
		}
	}
}

func TestD2TakesWhatIsWritten(t *testing.T) {
	for i, c := range []struct {
		s    string
		want []api.Sample
	}{
		{written(1, 0, 0), []api.Sample{{}}},
		{written(3, 100, 7, 10, 0, 0, -2), []api.Sample{{At: 100, Value: 7}, {At: 110, Value: 7}, {At: 120, Value: 5}}},
		{written(2, 0, math.MinInt64, -1, -1), []api.Sample{{At: 0, Value: math.MinInt64}, {At: math.MaxUint64, Value: math.MaxInt64}}},
		{written(2, 1, 0, math.MinInt64, math.MinInt64), []api.Sample{{At: 1}, {At: 1<<63 + 1, Value: math.MinInt64}}},
		{written(3, 0, 0, 1, 0, math.MaxInt64, 0), []api.Sample{{At: 0}, {At: 1}, {At: 1<<63 + 1}}},
		{written(3, 0, 0, 1, 0, math.MinInt64, 0), []api.Sample{{At: 0}, {At: 1}, {At: 1<<63 + 2}}},
		{written(2, 5, 0, -6, 0), []api.Sample{{At: 5}, {At: math.MaxUint64}}},
		{written(3, 5, 1, -8, -1, 9, -1), []api.Sample{{At: 5, Value: 1}, {At: math.MaxUint64 - 2}, {At: math.MaxUint64 - 1, Value: -1}}},
	} {
		if got, rest, e := sample.Take(c.s); e != api.OK || rest != "" || !slices.Equal(got, c.want) {
			t.Errorf("%d: %v %q %v", i, got, rest, e)
		}
	}
}

func noTake(t *testing.T, s string) {
	t.Helper()
	if l, rest, e := sample.Take(s); len(l) != 0 || rest != "" || e != api.ErrForm {
		t.Errorf("Take(%q): %v %q %v", s, l, rest, e)
	}
}

func TestD2TakeCutOff(t *testing.T) {
	for _, l := range rightSamples() {
		s := mustPut(t, l)
		for size := range len(s) {
			noTake(t, s[:size])
		}
	}
}

func TestD2TakeHowMany(t *testing.T) {
	rest := make([]int64, 1000) // the first value; then a step of 1 that stays
	rest[1] = 1
	for n := range uint64(300) {
		s := written(n, 5, rest...)
		if n == 0 || n > most {
			noTake(t, s)
			continue
		}
		l, left, e := sample.Take(s)
		if e != api.OK || uint64(len(l)) != n || len(left) != len(rest)-1-2*int(n-1) {
			t.Error(n, l, len(left), e)
		}
	}
	for _, n := range []uint64{1 << 32, 1<<32 + 1, 1 << 63, 1<<63 + 1, math.MaxUint64} {
		noTake(t, written(n, 5, rest...))
	}
}

func TestD2TakeNoRise(t *testing.T) {
	for _, s := range []string{
		written(2, 5, 0, 0, 0), written(2, 5, 0, -1, 0), written(2, 5, 0, -5, 0), written(2, 0, 0, 0, 0), written(2, math.MaxUint64, 0, 0, 0),
		// it goes round, and is no more than the one ahead
		written(2, math.MaxUint64, 0, 1, 0), written(2, 1<<63, 0, math.MinInt64, 0), written(2, 1<<63+1, 0, math.MaxInt64, 0), written(2, 1, 0, -1, 0), written(2, math.MaxUint64, 0, math.MinInt64, 0), written(3, 0, 0, 1<<62, 0, math.MinInt64, 0),
		// in the middle and at the end
		written(3, 5, 0, 1, 0, -1, 0), written(3, 5, 0, 1, 0, -2, 0), written(4, 5, 0, 9, 0, -9, 0, 5, 0), written(3, 5, 0, 0, 0, 7, 0), written(3, 5, 0, -1, 0, 9, 0),
		written(3, 0, 0, math.MaxInt64, 0, 2, 0), written(3, 1, 0, -2, 0, 1, 0), written(4, 5, 0, 1, 0, 0, 0, -1, 0),
	} {
		noTake(t, s)
		noTake(t, s+"\x02\x00")
	}
}

// Each number in its turn is one that has more groups than needed, or than there are.
func TestD2TakeNoNumber(t *testing.T) {
	numbers := []string{"\x03", "\x64", "\x0e", "\x14", "\x00", "\x00", "\x03"}
	for i := range numbers {
		same := string([]byte{numbers[i][0] | 0x80, 0}) // it, with a group that it does not need
		for _, none := range []string{same, "\xff\xff\xff\xff\xff\xff\xff\xff\xff\x02", "\x80\x80\x80\x80\x80\x80\x80\x80\x80\x80\x01"} {
			wrong := slices.Clone(numbers)
			wrong[i] = none
			s := strings.Join(wrong, "")
			noTake(t, s)
			noTake(t, s+"\x00\x00\x00")
		}
	}
}

func TestD3Between(t *testing.T) {
	l := at(5, 7, 9, 9, 1, math.MaxUint64, 0, 7)
	for i, c := range []struct {
		from, to uint64
		want     []int
	}{
		{0, math.MaxUint64, []int{0, 1, 2, 3, 4, 5, 6, 7}},
		{0, math.MaxUint64 - 1, []int{0, 1, 2, 3, 4, 6, 7}},
		{1, math.MaxUint64, []int{0, 1, 2, 3, 4, 5, 7}},
		{5, 9, []int{0, 1, 2, 3, 7}},
		{5, 5, []int{0}},
		{6, 8, []int{1, 7}},
		{7, 7, []int{1, 7}},
		{8, 8, nil},
		{6, 9, []int{1, 2, 3, 7}},
		{5, 8, []int{0, 1, 7}},
		{2, 4, nil},
		{10, math.MaxUint64 - 1, nil},
		{0, 0, []int{6}},
		{math.MaxUint64, math.MaxUint64, []int{5}},
		// from above to
		{9, 5, nil},
		{8, 7, nil},
		{7, 6, nil},
		{math.MaxUint64, 0, nil},
		{1, 0, nil},
	} {
		var want []api.Sample
		for _, j := range c.want {
			want = append(want, l[j])
		}
		if got := sample.Between(l, c.from, c.to); !slices.Equal(got, want) {
			t.Errorf("%d: %v", i, got)
		}
	}
	for _, none := range [][]api.Sample{nil, {}, l[:0]} {
		if got := sample.Between(none, 0, math.MaxUint64); len(got) != 0 {
			t.Error(got)
		}
	}
}

// There may be more than 20 of them, and times may be the same.
func TestD3BetweenOfMany(t *testing.T) {
	l := make([]api.Sample, 100000)
	for i := range l {
		l[i] = api.Sample{At: uint64(i % 1000), Value: int64(i)}
	}
	got := sample.Between(l, 10, 12)
	if len(got) != 300 {
		t.Fatal(len(got))
	}
	for i, x := range got {
		if want := int64(i/3*1000 + 10 + i%3); x.Value != want || x.At != uint64(want%1000) {
			t.Fatal(i, x)
		}
	}
}

func TestD4WhatWasPutIsTaken(t *testing.T) {
	for _, l := range rightSamples() {
		s := mustPut(t, l)
		for _, behind := range []string{"", "x", "\x00", "\x80", "\xff\xff", "\x80\x00", s, "\x02\x00"} {
			if got, rest, e := sample.Take(s + behind); e != api.OK || rest != behind || !slices.Equal(got, l) {
				t.Errorf("Take(%q): %v %q %v", s+behind, got, rest, e)
			}
		}
	}
}

// Of all short texts of these bytes, and of damaged ones.
func TestD4WhatIsTakenWasPut(t *testing.T) {
	const bytes = "\x00\x01\x02\x03\x04\x7f\x80\x81"
	todo := []string{""}
	for len(todo) > 0 {
		s := todo[0]
		todo = todo[1:]
		takenWasPut(t, s)
		if len(s) < 6 {
			for i := range len(bytes) {
				todo = append(todo, s+bytes[i:i+1])
			}
		}
	}
	r := rand.New(rand.NewSource(5))
	for _, l := range rightSamples() {
		s := []byte(mustPut(t, l))
		for range 50 {
			damaged := slices.Clone(s)
			damaged[r.Intn(len(s))] += byte(1 + r.Intn(3)*r.Intn(100))
			takenWasPut(t, string(damaged))
		}
	}
}

func takenWasPut(t *testing.T, s string) {
	t.Helper()
	l, rest, e := sample.Take(s)
	if e != api.OK {
		if e != api.ErrForm || len(l) != 0 || rest != "" {
			t.Errorf("Take(%q): %v %q %v", s, l, rest, e)
		}
		return
	}
	if put, e := sample.Put(l); e != api.OK || put+rest != s {
		t.Errorf("Take(%q): %v %q, put as %q %v", s, l, rest, put, e)
	}
}

func FuzzTake(f *testing.F) {
	f.Add("\x03\x64\x0e\x14\x00\x00\x03")
	f.Add("\x01\x00\x01behind")
	f.Fuzz(takenWasPut)
}

// What a call was handed, and what lies behind its length, stays; what it answered is the caller's own.
func TestListsAreNeitherWrittenNorKept(t *testing.T) {
	behind := api.Sample{At: 1, Value: 1 << 40}
	for _, l := range rightSamples() {
		whole := append(slices.Clone(l), behind, behind)
		part := whole[:len(l)]
		s := mustPut(t, part)
		got := sample.Between(part, 0, math.MaxUint64)
		if !slices.Equal(got, l) {
			t.Errorf("Between(%v): %v", l, got)
		}
		for i := range got {
			got[i] = api.Sample{}
		}
		_ = append(got, got...)
		if !slices.Equal(whole, append(slices.Clone(l), behind, behind)) {
			t.Errorf("%v: %v", l, whole)
		}
		first, _, _ := sample.Take(s)
		clear(first)
		if again, _, e := sample.Take(s); e != api.OK || !slices.Equal(again, l) {
			t.Errorf("Take(%q): %v %v", s, again, e)
		}
	}
}
