package shard_test

import (
	"hash/fnv"
	"strings"
	"testing"

	"postroom/shard"
)

func TestM1HashExamples(t *testing.T) {
	for _, c := range []struct {
		s    string
		want uint64
	}{
		{"a", 12638187200555641996},
		{"", 14695981039346656037},
		// from outside the document: as the hash's makers have them
		{"b", 0xaf63df4c8601f1a5},
		{"foobar", 0x85944171f73967e8},
		{"\x00", 0xaf63bd4c8601b7df},
	} {
		if got := shard.Hash(c.s); got != c.want {
			t.Errorf("Hash(%q) = %d, not %d", c.s, got, c.want)
		}
	}
}

func TestM1HashIsAsTheWordsSay(t *testing.T) {
	for _, s := range texts() {
		if got, want := shard.Hash(s), byWords(s); got != want {
			t.Errorf("Hash(%q) = %d, not %d", s, got, want)
		}
		library := fnv.New64a()
		library.Write([]byte(s))
		if got, want := shard.Hash(s), library.Sum64(); got != want {
			t.Errorf("Hash(%q) = %d, the library has %d", s, got, want)
		}
	}
}

func TestM1HashOfEachByteAndOfEachTwo(t *testing.T) {
	for a := range 256 {
		if got, want := shard.Hash(oneByte(a)), byWords(oneByte(a)); got != want {
			t.Fatalf("Hash of the byte %d = %d, not %d", a, got, want)
		}
		for b := range 256 {
			if got, want := shard.Hash(oneByte(a)+oneByte(b)), byWords(oneByte(a)+oneByte(b)); got != want {
				t.Fatalf("Hash of the bytes %d, %d = %d, not %d", a, b, got, want)
			}
		}
	}
}

func TestM1HashOfLongTexts(t *testing.T) {
	for _, s := range []string{
		someBytes(2, 200000), strings.Repeat("\x00", 100000), strings.Repeat("\xff", 100000), strings.Repeat("a", 1<<16), strings.Repeat("\x80\x7f", 1<<15),
	} {
		if got, want := shard.Hash(s), byWords(s); got != want {
			t.Errorf("Hash of %d bytes = %d, not %d", len(s), got, want)
		}
	}
}

// TestM1HashOneByteMore: each byte of a text changes the hash of what is ahead of it as the words say.
func TestM1HashOneByteMore(t *testing.T) {
	long := someBytes(3, 3000)
	for i := range len(long) {
		want := (shard.Hash(long[:i]) ^ uint64(long[i])) * 1099511628211
		if got := shard.Hash(long[:i+1]); got != want {
			t.Fatalf("%d bytes: %d, not %d", i+1, got, want)
		}
	}
}

func TestM1HashUnlikeInTheLastByte(t *testing.T) {
	for _, ahead := range texts() {
		seen := map[uint64]int{}
		for b := range 256 {
			hash := shard.Hash(ahead + oneByte(b))
			if other, ok := seen[hash]; ok {
				t.Fatalf("%q: the last bytes %d and %d have one hash", ahead, other, b)
			}
			seen[hash] = b
		}
	}
}

// TestM1HashSeesEachByte: where it stands, how many there are, and what is ahead.
func TestM1HashSeesEachByte(t *testing.T) {
	seen := map[uint64]string{}
	for _, s := range smallLists([]string{"\x00", "\x01", "a", "\x7f", "\x80", "\xff"}, 5) {
		text := strings.Join(s, "")
		hash := shard.Hash(text)
		if other, ok := seen[hash]; ok {
			t.Fatalf("%q and %q have one hash", other, text)
		}
		seen[hash] = text
	}
}
