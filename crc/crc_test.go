package crc_test

import (
	"hash/crc32"
	"math"
	"math/rand"
	"strings"
	"testing"

	"postroom/crc"
)

// through puts the bytes of s through a register bit by bit, as the words say.
func through(register uint32, s string) uint32 {
	for i := range len(s) {
		register ^= uint32(s[i])
		for range 8 {
			out := register & 1
			register >>= 1
			if out == 1 {
				register ^= 0x82F63B78
			}
		}
	}
	return register
}

// someBytes is a text of that many bytes, the same at each run.
func someBytes(seed int64, size int) string {
	out := make([]byte, size)
	rand.New(rand.NewSource(seed)).Read(out)
	return string(out)
}

func everyByte() string {
	out := make([]byte, 256)
	for i := range out {
		out[i] = byte(i)
	}
	return string(out)
}

func texts() []string {
	out := []string{
		"", "a", "b", "ab", "ba", "123456789", "é", "\x00", "\x00\x00", "\x01", "\x0f", "\x10", "\x80", "\xff", "\xff\xff\xff\xff",
		strings.Repeat("\x00", 33), strings.Repeat("\xff", 33), strings.Repeat("postroom ", 300), everyByte(),
	}
	for size := range 20 {
		out = append(out, someBytes(int64(size), size))
	}
	return out
}

// begins: sums that text is added to.
func begins() []uint32 {
	out := []uint32{0, 1, 7, 0xE3069283, 0x82F63B78, math.MaxUint32 - 1, math.MaxUint32}
	for i := range 32 {
		out = append(out, 1<<i, ^uint32(1<<i))
	}
	return out
}

func TestB1Examples(t *testing.T) {
	for _, c := range []struct {
		s    string
		want uint32
	}{
		{"123456789", 0xE3069283},
		{"", 0},
		// from outside the document: 32 bytes each, as RFC 3720 has them
		{strings.Repeat("\x00", 32), 0x8A9136AA},
		{strings.Repeat("\xff", 32), 0x62A8AB43},
		{everyByte()[:32], 0x46DD794E},
	} {
		if got := crc.Sum(c.s); got != c.want {
			t.Errorf("Sum(%q) = %08X, not %08X", c.s, got, c.want)
		}
	}
}

func TestB1SumIsAsTheWordsSay(t *testing.T) {
	table := crc32.MakeTable(crc32.Castagnoli)
	for _, s := range texts() {
		got := crc.Sum(s)
		if want := ^through(0xFFFFFFFF, s); got != want {
			t.Errorf("Sum(%q) = %08X, not %08X", s, got, want)
		}
		if want := crc32.Checksum([]byte(s), table); got != want {
			t.Errorf("Sum(%q) = %08X, the library has %08X", s, got, want)
		}
	}
}

func TestB1SumOfEachByteAndOfEachTwo(t *testing.T) {
	all := everyByte()
	for i := range len(all) {
		one := all[i : i+1]
		if got, want := crc.Sum(one), ^through(0xFFFFFFFF, one); got != want {
			t.Fatalf("Sum(%q) = %08X, not %08X", one, got, want)
		}
		for k := range len(all) {
			two := one + all[k:k+1]
			if got, want := crc.Sum(two), ^through(0xFFFFFFFF, two); got != want {
				t.Fatalf("Sum(%q) = %08X, not %08X", two, got, want)
			}
		}
	}
}

func TestB1AddBeginsWithTheSum(t *testing.T) {
	for _, sum := range begins() {
		for _, s := range texts() {
			if got, want := crc.Add(sum, s), ^through(^sum, s); got != want {
				t.Errorf("Add(%08X, %q) = %08X, not %08X", sum, s, got, want)
			}
		}
		if got := crc.Add(sum, ""); got != sum {
			t.Errorf("Add(%08X, no bytes) = %08X", sum, got)
		}
	}
}

func TestB2OneTextBehindTheOther(t *testing.T) {
	for _, a := range texts() {
		for _, b := range texts() {
			if got, want := crc.Add(crc.Sum(a), b), crc.Sum(a+b); got != want {
				t.Errorf("%q, %q: %08X, not %08X", a, b, got, want)
			}
		}
	}
	long := someBytes(1, 100)
	for k := range len(long) + 1 {
		if got, want := crc.Add(crc.Sum(long[:k]), long[k:]), crc.Sum(long); got != want {
			t.Errorf("cut at %d: %08X, not %08X", k, got, want)
		}
	}
}

func TestB2EachBitThatIsTurnedChangesTheSum(t *testing.T) {
	for _, s := range texts() {
		sum := crc.Sum(s)
		turned := []byte(s)
		for i := range turned {
			for bit := range 8 {
				turned[i] ^= 1 << bit
				if crc.Sum(string(turned)) == sum {
					t.Errorf("%q: bit %d of byte %d is not seen", s, bit, i)
				}
				turned[i] ^= 1 << bit
			}
		}
	}
}

func TestB2ThreeTextsChangedByOneAnother(t *testing.T) {
	check := func(a, b, c string) {
		t.Helper()
		mixed := make([]byte, len(a))
		for i := range mixed {
			mixed[i] = a[i] ^ b[i] ^ c[i]
		}
		if got, want := crc.Sum(string(mixed)), crc.Sum(a)^crc.Sum(b)^crc.Sum(c); got != want {
			t.Errorf("%q, %q, %q: %08X, not %08X", a, b, c, got, want)
		}
	}
	check("", "", "")
	check("abc", "abc", "abc")
	check("abc", "abc", "xyz")
	for size := range 70 {
		zeros, ones := strings.Repeat("\x00", size), strings.Repeat("\xff", size)
		a, b, c := someBytes(int64(3*size), size), someBytes(int64(3*size+1), size), someBytes(int64(3*size+2), size)
		check(a, b, c)
		check(zeros, ones, a)
		check(zeros, zeros, b)
		check(ones, b, c)
	}
}
