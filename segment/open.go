package segment

import (
	"iter"
	"strconv"
	"strings"

	"postroom/api"
	"postroom/frame"
)

// open finds the segments of the disk, or begins the first one.
func (l *Log) open() api.Errno {
	firsts := firstsOf(l.List())
	if len(firsts) == 0 {
		return l.begin(firstOfAll)
	}
	behind, e := l.load(firsts)
	if e != api.OK {
		return e
	}
	if behind > 0 {
		if e := l.Cut(l.active().name(), l.active().Size); e != api.OK {
			return e
		}
	}
	return l.confirm()
}

// load reads all segments, and tells how many bytes stand behind the bodies of the last one.
func (l *Log) load(firsts []uint64) (int, api.Errno) {
	behind := 0
	for i, first := range firsts {
		if i > 0 && (behind > 0 || first != l.Next()) {
			return 0, api.ErrForm
		}
		text, e := l.Read(Name(first))
		if e != api.OK {
			return 0, e
		}
		s := measure(first, text)
		l.segs = append(l.segs, s)
		behind = len(text) - s.Size
	}
	return behind, api.OK
}

// firstsOf are those of all names that are segments'. These rise by bytes as their numbers do, as all have as many digits.
func firstsOf(names []string) []uint64 {
	var l []uint64
	for _, name := range names {
		if first, ok := firstOf(name); ok {
			l = append(l, first)
		}
	}
	return l
}

func firstOf(name string) (uint64, bool) {
	first, err := strconv.ParseUint(strings.TrimPrefix(name, ahead), base, bits)
	if err != nil || name != Name(first) {
		return 0, false
	}
	return first, true
}

// measure is the segment that a file's bytes begin with.
func measure(first uint64, text string) Seg {
	s := Seg{First: first}
	for f := range bodies(first, text) {
		s.Many++
		s.Size += f.Size
	}
	return s
}

// bodies are the frames that a segment's bytes begin with, as long as their numbers go on.
func bodies(first uint64, text string) iter.Seq[frame.Frame] {
	return func(yield func(frame.Frame) bool) {
		rest := text
		for seq := first; ; seq++ {
			f, e := frame.First(rest)
			if e != api.OK || f.Seq != seq || !yield(f) {
				return
			}
			rest = rest[f.Size:]
		}
	}
}

func (s Seg) name() string { return Name(s.First) }

func (s Seg) next() uint64 { return s.First + uint64(s.Many) }
