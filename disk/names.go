package disk

import (
	"cmp"
	"maps"
	"slices"
)

// A holding is what a name stands for: nothing, if there is no file.
type holding struct {
	name string
	file *file
}

// A change of names is kept as what its names stood for ahead of it, one by one. So the names that
// there were are found backwards from those that there are, and a SyncDir has nothing to copy.
type change []holding

// change is one change of names, of however many names.
func (d *Disk) change(now ...holding) {
	var c change
	for _, h := range now {
		was := holding{h.name, d.files[h.name]}
		c = append(c, was)
		d.used += h.file.size() - was.file.size()
		h.put(d.files)
	}
	d.changes = append(d.changes, c)
}

// namesBehind are the names behind the first n changes since the last SyncDir.
func (d *Disk) namesBehind(n int) map[string]*file {
	names := maps.Clone(d.files)
	kept := within(n, len(d.changes))
	for _, c := range slices.Backward(d.changes[kept:]) {
		for _, h := range slices.Backward(c) {
			h.put(names)
		}
	}
	return names
}

func (h holding) put(names map[string]*file) {
	if h.file == nil {
		delete(names, h.name)
		return
	}
	names[h.name] = h.file
}

// inOrder are the names by their files' numbers.
func inOrder(names map[string]*file) []holding {
	var l []holding
	for name, f := range names {
		l = append(l, holding{name, f})
	}
	slices.SortFunc(l, func(a, b holding) int { return cmp.Compare(a.file.number, b.file.number) })
	return l
}

// within is n, but not below 0, and not above most.
func within(n, most int) int { return min(max(n, 0), most) }
