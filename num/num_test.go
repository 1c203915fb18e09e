package num_test

import (
	"encoding/binary"
	"math"
	"math/big"
	"strings"
	"testing"

	"postroom/api"
	"postroom/num"
)

// edges: around each power of 2, where a group begins or the sign turns.
func edges() []uint64 {
	out := []uint64{0, 300, math.MaxUint64}
	for i := range 64 {
		p := uint64(1) << i
		out = append(out, p-1, p, p+1, -p, ^p)
	}
	return out
}

// signedAsNumber is 2n, or -2n - 1, worked out where nothing goes round.
func signedAsNumber(n int64) uint64 {
	b := big.NewInt(n)
	if n >= 0 {
		return b.Mul(b, big.NewInt(2)).Uint64()
	}
	b.Mul(b, big.NewInt(-2))
	return b.Sub(b, big.NewInt(1)).Uint64()
}

// beginning finds the number that s begins with by trying each length: the bytes up to it must be exactly those that are put.
func beginning(s string) (uint64, int) {
	for size := 1; size <= min(len(s), binary.MaxVarintLen64); size++ {
		n, got := binary.Uvarint([]byte(s[:size]))
		if got == size && string(binary.AppendUvarint(nil, n)) == s[:size] {
			return n, size
		}
	}
	return 0, 0
}

// eachText goes through all texts of at most size letters.
func eachText(letters string, size int, do func(string)) {
	level := []string{""}
	for {
		for _, s := range level {
			do(s)
		}
		if size == 0 {
			return
		}
		size--
		var next []string
		for _, s := range level {
			for i := range len(letters) {
				next = append(next, s+letters[i:i+1])
			}
		}
		level = next
	}
}

const ff9 = "\xff\xff\xff\xff\xff\xff\xff\xff\xff"

func TestA1PutIsAsTheWordsSay(t *testing.T) {
	for _, c := range []struct {
		n uint64
		s string
	}{
		{0, "\x00"}, {1, "\x01"}, {127, "\x7f"}, {128, "\x80\x01"}, {300, "\xac\x02"},
		{16383, "\xff\x7f"}, {16384, "\x80\x80\x01"},
		{1<<63 - 1, ff9[1:] + "\x7f"}, {1 << 63, strings.Repeat("\x80", 9) + "\x01"}, {math.MaxUint64, ff9 + "\x01"},
	} {
		if got := num.Put(c.n); got != c.s {
			t.Errorf("Put(%d) = %q, not %q", c.n, got, c.s)
		}
	}
	for _, n := range edges() {
		if got, want := num.Put(n), string(binary.AppendUvarint(nil, n)); got != want {
			t.Errorf("Put(%d) = %q, not %q", n, got, want)
		}
	}
}

func TestA1PutIntIsAsTheWordsSay(t *testing.T) {
	for _, c := range []struct {
		n int64
		s string
	}{
		{0, "\x00"}, {-1, "\x01"}, {1, "\x02"}, {-2, "\x03"}, {63, "\x7e"}, {-64, "\x7f"}, {64, "\x80\x01"}, {-65, "\x81\x01"},
		{math.MaxInt64, "\xfe" + ff9[1:] + "\x01"}, {math.MinInt64, ff9 + "\x01"},
	} {
		if got := num.PutInt(c.n); got != c.s {
			t.Errorf("PutInt(%d) = %q, not %q", c.n, got, c.s)
		}
	}
	for _, u := range edges() {
		n := int64(u)
		if got, want := num.PutInt(n), string(binary.AppendUvarint(nil, signedAsNumber(n))); got != want {
			t.Errorf("PutInt(%d) = %q, not %q", n, got, want)
		}
	}
}

func TestA1WrongBytesAreErrForm(t *testing.T) {
	for _, s := range []string{
		"", "\x80", "\xff", "\x80\x80", ff9, // ends too early
		"\x80\x00", "\xff\x00", "\x81\x80\x00", ff9 + "\x00", "\x80\x00\x01", // more groups than needed
		ff9 + "\x02", ff9 + "\x03", ff9 + "\x7f", // more bits than 2^64 - 1 has
		ff9 + "\x80", ff9 + "\x81", ff9 + "\x80\x00", ff9 + "\x81\x01", ff9 + "\xff\x01", // more groups than it has
		strings.Repeat("\x80", 100), strings.Repeat("\xff", 100) + "\x01", strings.Repeat("\x80", 63) + "\x01",
	} {
		if n, rest, e := num.Take(s); n != 0 || rest != "" || e != api.ErrForm {
			t.Errorf("Take(%q) = %d, %q, %v", s, n, rest, e)
		}
		if n, rest, e := num.TakeInt(s); n != 0 || rest != "" || e != api.ErrForm {
			t.Errorf("TakeInt(%q) = %d, %q, %v", s, n, rest, e)
		}
	}
}

// checkTake holds Take and TakeInt against what is found by trying each length.
func checkTake(t *testing.T, s string) {
	t.Helper()
	want, size := beginning(s)
	wantRest, wantErr := s[size:], api.OK
	if size == 0 {
		wantRest, wantErr = "", api.ErrForm
	}
	if n, rest, e := num.Take(s); n != want || rest != wantRest || e != wantErr {
		t.Fatalf("Take(%q) = %d, %q, %v, not %d, %q, %v", s, n, rest, e, want, wantRest, wantErr)
	}
	n, rest, e := num.TakeInt(s)
	if rest != wantRest || e != wantErr || (e == api.OK && signedAsNumber(n) != want) || (e != api.OK && n != 0) {
		t.Fatalf("TakeInt(%q) = %d, %q, %v; the number is %d, %q, %v", s, n, rest, e, want, wantRest, wantErr)
	}
}

func TestA1TakeOfAllShortBytes(t *testing.T) {
	var all strings.Builder
	for b := range 256 {
		all.WriteByte(byte(b))
	}
	eachText(all.String(), 2, func(s string) { checkTake(t, s) })
	eachText("\x00\x01\x7f\x80\xff", 5, func(s string) { checkTake(t, s) })
	for _, front := range []string{"\x80", "\xff"} {
		for size := 6; size <= 10; size++ {
			eachText("\x00\x01\x02\x7f\x80\x81\xff", 3, func(s string) { checkTake(t, strings.Repeat(front, size)+s) })
		}
	}
}

func FuzzTake(f *testing.F) {
	f.Add("")
	f.Add("\xac\x02rest")
	f.Add(ff9 + "\x01")
	f.Fuzz(checkTake)
}

func TestA2PutText(t *testing.T) {
	for _, c := range []struct{ t, front string }{
		{"", "\x00"}, {"a", "\x01"}, {"\x00", "\x01"}, {"\xff\x80", "\x02"}, {"é", "\x02"},
		{strings.Repeat("x", 127), "\x7f"}, {strings.Repeat("x", 128), "\x80\x01"}, {strings.Repeat("x", 300), "\xac\x02"},
	} {
		if got := num.PutText(c.t); got != c.front+c.t {
			t.Errorf("PutText(%q) = %q", c.t, got)
		}
	}
}

func TestA2TakeText(t *testing.T) {
	long := strings.Repeat("x", 300)
	for _, c := range []struct {
		s       string
		most    int
		t, rest string
		e       api.Errno
	}{
		{"\x02abc", 2, "ab", "c", api.OK},
		{"\x02ab", math.MaxInt, "ab", "", api.OK},
		{"\xac\x02" + long + "\x80", 300, long, "\x80", api.OK},
		{"\x00", 0, "", "", api.OK},
		{"\x00q", 0, "", "q", api.OK},
		{"\x00q", -1, "", "q", api.OK},
		{"\x00q", math.MinInt, "", "q", api.OK},
		{"\x00", 5, "", "", api.OK},
		// a number that is none comes ahead of all
		{"", 5, "", "", api.ErrForm},
		{"", -1, "", "", api.ErrForm},
		{"\x80", 0, "", "", api.ErrForm},
		{"\x82\x00ab", 5, "", "", api.ErrForm},
		{ff9 + "\x02ab", 5, "", "", api.ErrForm},
		// too long comes ahead of cut off
		{"\x02ab", 1, "", "", api.ErrLong},
		{"\x02abc", 0, "", "", api.ErrLong},
		{"\x01a", -1, "", "", api.ErrLong},
		{"\x01a", math.MinInt, "", "", api.ErrLong},
		{"\x05abc", 4, "", "", api.ErrLong},
		{"\xac\x02" + long, 299, "", "", api.ErrLong},
		{ff9 + "\x01a", math.MaxInt, "", "", api.ErrLong},
		{num.Put(1<<63) + "a", math.MaxInt, "", "", api.ErrLong},
		{"\x03ab", 3, "", "", api.ErrForm},
		{"\x01", 1, "", "", api.ErrForm},
		{"\xac\x02" + long[1:], 300, "", "", api.ErrForm},
		{num.Put(1<<63-1) + "a", math.MaxInt, "", "", api.ErrForm},
	} {
		if got, rest, e := num.TakeText(c.s, c.most); got != c.t || rest != c.rest || e != c.e {
			t.Errorf("TakeText(%q, %d) = %q, %q, %v, not %q, %q, %v", c.s, c.most, got, rest, e, c.t, c.rest, c.e)
		}
	}
}

func TestA3WhatWasPutIsTaken(t *testing.T) {
	for _, rest := range []string{"", "\x00", "\x01", "\x80", "\xff\xff", "more"} {
		for _, n := range edges() {
			if got, behind, e := num.Take(num.Put(n) + rest); got != n || behind != rest || e != api.OK {
				t.Errorf("%d, %q: %d, %q, %v", n, rest, got, behind, e)
			}
			i := int64(n)
			if got, behind, e := num.TakeInt(num.PutInt(i) + rest); got != i || behind != rest || e != api.OK {
				t.Errorf("%d, %q: %d, %q, %v", i, rest, got, behind, e)
			}
		}
		for _, size := range []int{0, 1, 2, 127, 128, 129, 16383, 16384} {
			text := strings.Repeat("\x80", size)
			if got, behind, e := num.TakeText(num.PutText(text)+rest, size); got != text || behind != rest || e != api.OK {
				t.Errorf("%d bytes, %q: %q, %q, %v", size, rest, got, behind, e)
			}
		}
	}
}

func TestA3WhatIsTakenWasPutSo(t *testing.T) {
	eachText("\x00\x01\x02\x7f\x80\x81\xff", 5, func(s string) {
		if n, rest, e := num.Take(s); e == api.OK && num.Put(n)+rest != s {
			t.Errorf("Take(%q) = %d, %q", s, n, rest)
		}
		if n, rest, e := num.TakeInt(s); e == api.OK && num.PutInt(n)+rest != s {
			t.Errorf("TakeInt(%q) = %d, %q", s, n, rest)
		}
		if text, rest, e := num.TakeText(s, 4); e == api.OK && num.PutText(text)+rest != s {
			t.Errorf("TakeText(%q) = %q, %q", s, text, rest)
		}
	})
}

func TestA3NoNumbersBytesBeginAnothers(t *testing.T) {
	all := edges()
	for n := range uint64(1000) {
		all = append(all, n)
	}
	for _, a := range all {
		for _, b := range all {
			if a != b && strings.HasPrefix(num.Put(b), num.Put(a)) {
				t.Fatalf("the bytes of %d begin those of %d", a, b)
			}
		}
	}
}
