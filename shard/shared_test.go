package shard_test

import (
	"math/rand"
	"slices"
	"testing"

	"postroom/shard"
)

const stain = 777777

// listOf is the one that a place is in.
func listOf(t *testing.T, lists [][]int, place int) int {
	t.Helper()
	for i, l := range lists {
		if slices.Contains(l, place) {
			return i
		}
	}
	t.Fatalf("place %d is in none of %v", place, lists)
	return 0
}

// TestM2WhateverOthers: a series stays in its shard, whatever stands ahead of it, or behind it.
func TestM2WhateverOthers(t *testing.T) {
	others := smallLists([]string{"a", "b", "\x00", "series"}, 2)
	for _, s := range []string{"", "a", "series", "\x00", "\xff\x80", someBytes(4, 100)} {
		for n := 1; n <= 8; n++ {
			want := listOf(t, shard.Split([]string{s}, n), 0)
			if got := shard.Of(s, n); got != want {
				t.Fatalf("%q, %d: %d, not %d", s, n, got, want)
			}
			for _, ahead := range others {
				for _, behind := range others {
					series := slices.Concat(ahead, []string{s}, behind)
					if got := listOf(t, shard.Split(series, n), len(ahead)); got != want {
						t.Fatalf("%q, %d: place %d: %d, not %d", series, n, len(ahead), got, want)
					}
				}
			}
		}
	}
}

// TestM2InWhateverOrder: the same series, in another order, with some of them left out, are in the same shards.
func TestM2InWhateverOrder(t *testing.T) {
	r := rand.New(rand.NewSource(14))
	all := texts()
	for range 200 {
		r.Shuffle(len(all), func(i, k int) { all[i], all[k] = all[k], all[i] })
		series := all[:r.Intn(len(all)+1)]
		n := 1 + r.Intn(8)
		lists := shard.Split(series, n)
		for place, s := range series {
			if got, want := listOf(t, lists, place), remainder(byWords(s), n); got != want {
				t.Fatalf("%q, %d: %d, not %d", s, n, got, want)
			}
		}
	}
}

// roomy is a list with room behind its length, in which something else stands.
func roomy(series []string) []string {
	return append(slices.Clone(series), "stranger", "stranger")[:len(series)]
}

func whole(series []string) []string { return slices.Clone(series[:cap(series)]) }

// TestP3WhatIsHandedInStays: neither the texts nor what is behind them is changed, nor told.
func TestP3WhatIsHandedInStays(t *testing.T) {
	for _, list := range [][]string{nil, {"a"}, {"b", "a", "", "b"}, texts()} {
		series := roomy(list)
		was := whole(series)
		for n := 1; n <= 8; n++ {
			split(t, series, n)
		}
		for _, n := range outside() {
			shard.Split(series, n)
		}
		if !slices.Equal(whole(series), was) {
			t.Errorf("%q, not %q", whole(series), was)
		}
	}
}

// TestP3ListsAreKept: what was told stays, whatever is told later, and whatever becomes of the texts.
func TestP3ListsAreKept(t *testing.T) {
	series := texts()
	var told [][][]int
	var was []string
	for n := 1; n <= 8; n++ {
		lists := shard.Split(series, n)
		told, was = append(told, lists), append(was, said(lists))
	}
	for n := range 12 {
		shard.Split([]string{"b", "a", "b", "a"}, n)
	}
	for i := range series {
		series[i] = "spoilt"
	}
	for n := 1; n <= 8; n++ {
		shard.Split(series, n)
	}
	for i, lists := range told {
		if said(lists) != was[i] {
			t.Errorf("%d: %s, not %s", i+1, said(lists), was[i])
		}
	}
}

// spoil writes into all memory of an answer.
func spoil(lists [][]int) {
	for _, l := range lists[:cap(lists)] {
		spoilPlaces(l)
	}
	for i := range lists[:cap(lists)] {
		lists[:cap(lists)][i] = []int{stain}
	}
}

func spoilPlaces(l []int) {
	for i := range l[:cap(l)] {
		l[:cap(l)][i] = stain
	}
}

// TestP3ListsAreNew: two answers of the same do not see each other.
func TestP3ListsAreNew(t *testing.T) {
	series := texts()
	for n := 1; n <= 8; n++ {
		stays := shard.Split(series, n)
		spoil(shard.Split(series, n))
		if want := said(listsByWords(series, n)); said(stays) != want {
			t.Errorf("%d: %s, not %s", n, said(stays), want)
		}
		split(t, series, n)
	}
	spoil(shard.Split(series, 0))
	spoil(shard.Split(series, 9))
	split(t, series, 8)
}

// TestP3ListsOfOneAnswer: no list of an answer is another one's, nor grows into it.
func TestP3ListsOfOneAnswer(t *testing.T) {
	series := texts()
	for n := 1; n <= 8; n++ {
		for i := range n {
			lists := shard.Split(series, n)
			want := listsByWords(series, n)
			spoilPlaces(lists[i])
			lists[i] = want[i]
			if said(lists) != said(want) {
				t.Errorf("%d: list %d: %s, not %s", n, i, said(lists), said(want))
			}
		}
	}
}

// TestP4SameAgain: what was asked ahead of it does not matter.
func TestP4SameAgain(t *testing.T) {
	for range 3 {
		for n := 8; n >= 0; n-- {
			shard.Split(texts(), n)
			if got := shard.Hash("a"); got != 12638187200555641996 {
				t.Errorf("%d", got)
			}
			if got := shard.Of("a", 7); got != 5 {
				t.Errorf("%d", got)
			}
			split(t, []string{"a", "b", "a"}, 3)
		}
	}
}
