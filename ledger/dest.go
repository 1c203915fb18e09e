package ledger

import (
	"slices"

	"postroom/label"
)

const nowhere = -1

// placeOf is where the destination of a name stands.
func placeOf(l []Dest, name string) int {
	for i, d := range l {
		if d.Name == name {
			return i
		}
	}
	return nowhere
}

func (d Dest) right(first, next uint64) bool {
	switch {
	case !label.Name(d.Name), d.Since < firstOfAll, d.Low < d.Since, d.Low > next:
		return false
	case !rise(d.Low, d.Above, next):
		return false
	case d.Low < first: // Low is pending, or Next: neither may be below First
		return false
	}
	// Both sides go round, so they may be held against each other whatever the counts are.
	return d.Acked+d.Evicted+d.Rejected == d.Low-d.Since+uint64(len(d.Above))
}

// rise tells whether numbers rise, above low and below next.
func rise(low uint64, l []uint64, next uint64) bool {
	for _, n := range l {
		if n <= low || n >= next {
			return false
		}
		low = n
	}
	return true
}

func (d Dest) waits(seq, next uint64) bool {
	if seq < d.Low || seq >= next {
		return false
	}
	_, done := slices.BinarySearch(d.Above, seq)
	return !done
}

func (d Dest) pending(next uint64) []uint64 {
	var out []uint64
	done := d.Above
	for seq := d.Low; seq < next; seq++ {
		if len(done) > 0 && done[0] == seq {
			done = done[1:]
		} else {
			out = append(out, seq)
		}
	}
	return out
}

// finish makes a number done that was pending.
func (d *Dest) finish(seq uint64) {
	at, _ := slices.BinarySearch(d.Above, seq)
	above := make([]uint64, len(d.Above)+1)
	copy(above, d.Above[:at])
	above[at] = seq
	copy(above[at+1:], d.Above[at:])
	d.Above = above
	d.settle()
}

// evict makes all done that is pending below a number. How many these are is worked out, as they may be too many to be gone through.
func (d *Dest) evict(to uint64) {
	if to <= d.Low {
		return
	}
	done, _ := slices.BinarySearch(d.Above, to)
	d.Evicted += to - d.Low - uint64(done)
	d.Low = to
	d.Above = d.Above[done:]
	d.settle()
}

// settle moves Low up to the first number that is not done.
func (d *Dest) settle() {
	n := 0
	for n < len(d.Above) && d.Above[n] == d.Low {
		d.Low++
		n++
	}
	d.Above = numbers(d.Above[n:]) // else what it has no more would stay in memory
}

func (d Dest) copied() Dest {
	d.Above = numbers(d.Above)
	return d
}

func numbers(l []uint64) []uint64 {
	out := make([]uint64, len(l))
	copy(out, l)
	return out
}
