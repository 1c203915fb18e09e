package shard_test

import (
	"fmt"
	"math/big"
	"math/rand"
	"slices"
	"strings"
	"testing"

	"postroom/shard"
)

const half = 1 << 63

// byWords is a text's hash, one byte at a time, in numbers without bounds of which what is beyond 64 bits is cut off.
func byWords(s string) uint64 {
	bound := new(big.Int).Lsh(big.NewInt(1), 64)
	factor := big.NewInt(1099511628211)
	hash := new(big.Int).SetUint64(14695981039346656037)
	for _, b := range []byte(s) {
		hash.Xor(hash, big.NewInt(int64(b)))
		hash.Mul(hash, factor)
		hash.Mod(hash, bound)
	}
	return hash.Uint64()
}

// remainder is that of a hash by n, in numbers without bounds.
func remainder(hash uint64, n int) int {
	return int(new(big.Int).Mod(new(big.Int).SetUint64(hash), big.NewInt(int64(n))).Int64())
}

// listsByWords are n lists, each made by going through all series.
func listsByWords(series []string, n int) [][]int {
	out := make([][]int, n)
	for i := range out {
		for place, s := range series {
			if remainder(byWords(s), n) == i {
				out[i] = append(out[i], place)
			}
		}
	}
	return out
}

func said(l [][]int) string { return fmt.Sprint(len(l), l) }

// split wants of Split what the words tell, and answers it.
func split(t *testing.T, series []string, n int) [][]int {
	t.Helper()
	got, want := shard.Split(series, n), listsByWords(series, n)
	if said(got) != said(want) {
		t.Fatalf("Split(%q, %d) = %v, not %v", series, n, got, want)
	}
	return got
}

// inJustOne wants that places rise, and that each is in one list, the one that Of tells.
func inJustOne(t *testing.T, series []string, n int, lists [][]int) {
	t.Helper()
	if len(lists) != n {
		t.Fatalf("%q, %d: %d lists", series, n, len(lists))
	}
	of := map[int]int{}
	for i, l := range lists {
		if !slices.IsSorted(l) {
			t.Fatalf("%q, %d: list %d does not rise: %v", series, n, i, l)
		}
		for _, place := range l {
			if was, ok := of[place]; ok || place < 0 || place >= len(series) {
				t.Fatalf("%q, %d: place %d is in list %d, and %d", series, n, place, was, i)
			}
			of[place] = i
		}
	}
	for place, s := range series {
		if i, ok := of[place]; !ok || i != shard.Of(s, n) {
			t.Fatalf("%q, %d: place %d is in list %d (%v), not %d", series, n, place, i, ok, shard.Of(s, n))
		}
	}
}

// someBytes is a text of that many bytes, the same at each run.
func someBytes(seed int64, size int) string {
	out := make([]byte, size)
	rand.New(rand.NewSource(seed)).Read(out)
	return string(out)
}

func oneByte(b int) string { return string([]byte{byte(b)}) }

// texts are short and long ones, some with bytes that are no letters' and no runes'.
func texts() []string {
	out := []string{"", "a", "b", "ab", "ba", "aa", "foobar", "postroom", "é", "日本", "\uFFFD", "\n\t "}
	for _, x := range []string{"\x00", "\x7f", "\x80", "\xff"} {
		out = append(out, x, x+x, "a"+x, x+"a", "a"+x+"b", strings.Repeat(x, 33), "\x00"+x+"\x7f", "\x80"+x+"\xff")
	}
	for size := range 40 {
		out = append(out, someBytes(int64(size), size))
	}
	return append(out, strings.Repeat("postroom ", 300), someBytes(1, 5000))
}

// smallLists are all lists of these texts, up to so many.
func smallLists(of []string, most int) [][]string {
	out := [][]string{nil}
	for from, size := 0, 1; size <= most; size++ {
		to := len(out)
		for _, l := range out[from:to] {
			for _, s := range of {
				out = append(out, append(slices.Clone(l), s))
			}
		}
		from = to
	}
	return out
}
