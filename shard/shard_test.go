package shard_test

import (
	"math"
	"math/rand"
	"testing"

	"postroom/shard"
)

// outside are numbers of shards that there can't be.
func outside() []int {
	return []int{0, -1, -2, -8, -9, math.MinInt32, math.MinInt, math.MinInt + 1, 9, 10, 16, 255, 256, 257, 1 << 32, 1<<32 + 1, 1 << 62, math.MaxInt32, math.MaxInt - 1, math.MaxInt}
}

func TestM1OfKnown(t *testing.T) {
	// 12638187200555641996 by 1 to 8
	for i, want := range []int{0, 0, 1, 0, 1, 4, 5, 4} {
		if got := shard.Of("a", i+1); got != want {
			t.Errorf("Of(a, %d) = %d, not %d", i+1, got, want)
		}
	}
	// 14695981039346656037 by 1 to 8
	for i, want := range []int{0, 1, 2, 1, 2, 5, 2, 5} {
		if got := shard.Of("", i+1); got != want {
			t.Errorf("Of of no bytes by %d = %d, not %d", i+1, got, want)
		}
	}
}

func TestM1OfIsAsTheWordsSay(t *testing.T) {
	above, below := 0, 0
	for _, s := range texts() {
		hash := byWords(s)
		if hash >= half {
			above++
		} else {
			below++
		}
		for n := 1; n <= 8; n++ {
			if got, want := shard.Of(s, n), remainder(hash, n); got != want {
				t.Errorf("Of(%q, %d) = %d, not %d", s, n, got, want)
			}
		}
	}
	if above < 10 || below < 10 {
		t.Error(above, below)
	}
}

// TestM1OfEachHalf: of hashes above half of what 64 bits hold, and of those below, many are in each shard.
func TestM1OfEachHalf(t *testing.T) {
	var many [2][9][8]int
	for i := range 1 << 16 {
		s := oneByte(i>>8) + "series" + oneByte(i)
		hash := byWords(s)
		for n := 1; n <= 8; n++ {
			got := shard.Of(s, n)
			if want := remainder(hash, n); got != want {
				t.Fatalf("Of(%q, %d) = %d, not %d", s, n, got, want)
			}
			many[hash/half][n][got]++
		}
	}
	for _, side := range many {
		for n := 1; n <= 8; n++ {
			for i, x := range side[n][:n] {
				if x < 1000 {
					t.Errorf("shard %d of %d: %d", i, n, x)
				}
			}
		}
	}
}

func TestM1OfAndSplitOutside(t *testing.T) {
	for _, n := range outside() {
		for _, s := range texts() {
			if got := shard.Of(s, n); got != 0 {
				t.Errorf("Of(%q, %d) = %d", s, n, got)
			}
		}
		for _, series := range [][]string{nil, {}, {"a"}, texts()} {
			if got := shard.Split(series, n); len(got) != 0 {
				t.Errorf("Split of %d, %d: %v", len(series), n, got)
			}
		}
	}
}

func TestM1SplitKnown(t *testing.T) {
	for _, c := range []struct {
		n    int
		want string
	}{
		{1, "1 [[0 1 2 3]]"},
		{2, "2 [[0 2] [1 3]]"},
		{3, "3 [[] [0 2 3] [1]]"},
		{4, "4 [[0 2] [1 3] [] []]"},
		{8, "8 [[] [] [] [] [0 2] [1 3] [] []]"},
	} {
		if got := said(shard.Split([]string{"a", "", "a", "b"}, c.n)); got != c.want {
			t.Errorf("%d: %s, not %s", c.n, got, c.want)
		}
	}
}

func TestM1SplitOfNoSeries(t *testing.T) {
	for n := 1; n <= 8; n++ {
		for _, series := range [][]string{nil, {}, texts()[:0]} {
			inJustOne(t, series, n, split(t, series, n))
		}
	}
}

// TestM1SplitOfOne: it is in its list, and all others are there, with nothing.
func TestM1SplitOfOne(t *testing.T) {
	for _, s := range texts() {
		for n := 1; n <= 8; n++ {
			for i, l := range split(t, []string{s}, n) {
				if here := i == shard.Of(s, n); here && (len(l) != 1 || l[0] != 0) || !here && len(l) != 0 {
					t.Errorf("%q, %d: list %d is %v", s, n, i, l)
				}
			}
		}
	}
}

func TestM1SplitOfTheSame(t *testing.T) {
	series := make([]string, 100)
	for _, s := range []string{"", "a", "\xff"} {
		for i := range series {
			series[i] = s
		}
		for n := 1; n <= 8; n++ {
			lists := split(t, series, n)
			inJustOne(t, series, n, lists)
			if got := len(lists[shard.Of(s, n)]); got != 100 {
				t.Errorf("%q, %d: %d", s, n, got)
			}
		}
	}
}

// TestM1SplitEmptyShards: a shard that no series is in has its list, the first, the last, and those between.
func TestM1SplitEmptyShards(t *testing.T) {
	for n := 2; n <= 8; n++ {
		for out := range n {
			var series []string
			for _, s := range texts() {
				if remainder(byWords(s), n) != out {
					series = append(series, s)
				}
			}
			lists := split(t, series, n)
			inJustOne(t, series, n, lists)
			for i, l := range lists {
				if (len(l) == 0) != (i == out) {
					t.Errorf("%d without %d: list %d is %v", n, out, i, l)
				}
			}
		}
	}
}

func TestM1SplitOfSmallLists(t *testing.T) {
	for _, series := range smallLists([]string{"", "a", "b", "c", "\x00\xff"}, 4) {
		for n := 1; n <= 8; n++ {
			inJustOne(t, series, n, split(t, series, n))
		}
	}
}

func TestM1SplitOfMany(t *testing.T) {
	r := rand.New(rand.NewSource(13))
	series := make([]string, 20000)
	for i := range series {
		series[i] = someBytes(int64(r.Intn(5000)), 1+r.Intn(2))
	}
	for n := 1; n <= 8; n++ {
		inJustOne(t, series, n, shard.Split(series, n))
	}
	some := append(texts(), series[:500]...)
	for n := 1; n <= 8; n++ {
		inJustOne(t, some, n, split(t, some, n))
	}
}

func FuzzSplit(f *testing.F) {
	f.Add("a", "", "\x80\xff", 3)
	f.Add("\x00", "a", "a", 9)
	f.Fuzz(func(t *testing.T, a, b, c string, n int) {
		series := []string{a, b, c, a}
		if n < 1 || n > 8 {
			if shard.Of(a, n) != 0 || len(shard.Split(series, n)) != 0 {
				t.Error(n)
			}
			return
		}
		inJustOne(t, series, n, split(t, series, n))
	})
}
