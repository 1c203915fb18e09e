package disk

import "slices"

// A file has its bytes as they are, and what is needed to go back from there, moment by moment, to
// what was synced. So a Sync has nothing to copy, however long the file is.
type file struct {
	number int
	text   []byte
	cuts   []cut // since it was synced
	grown  int   // bytes appended since the last one of these, or since it was synced
}

// A cut is kept as the bytes that it took away, and how many were appended between the cut ahead and it.
type cut struct {
	grown int
	lost  string
}

// size of no file is 0, as a name that stands for nothing has no bytes.
func (f *file) size() int {
	if f == nil {
		return 0
	}
	return len(f.text)
}

func (f *file) grow(s string) {
	f.text = append(f.text, s...)
	f.grown += len(s)
}

func (f *file) cut(n int) {
	f.cuts = append(f.cuts, cut{grown: f.grown, lost: string(f.text[n:])})
	f.text = f.text[:n]
	f.grown = 0
}

func (f *file) sync() {
	f.cuts = nil
	f.grown = 0
}

// moments is how many there were since it was synced.
func (f *file) moments() int {
	n := f.grown
	for _, c := range f.cuts {
		n += c.grown + 1
	}
	return n
}

// behind is what the file had behind the first n of its moments: new bytes, as two disks share none.
func (f *file) behind(n int) []byte {
	text, grown := slices.Clone(f.text), f.grown
	all := f.moments()
	back := all - within(n, all)
	for _, c := range slices.Backward(f.cuts) {
		if back <= grown {
			break
		}
		text = append(text[:len(text)-grown], c.lost...)
		back -= grown + 1
		grown = c.grown
	}
	return text[:len(text)-back]
}
