package join

import (
	"abutment/api"
	"abutment/file"
	"abutment/space"
)

// mostBound is the most tuples that there can be a writer for.
const mostBound = api.MostBlocks * 100

// change answers a file of that width of what how makes of the tuples of f, but for those
// beside which it answers false.
func change(w *file.Work, f file.File, width int, how func(t api.Tuple) (api.Tuple, bool)) (file.File, api.Errno) {
	r, e := w.Read(f)
	if e != api.OK {
		return file.File{}, e
	}
	defer r.Close()
	x := changed{from: r.Next, change: how}
	return lay(w, width, x.next, f)
}

// lay answers a file of that width of the tuples that from tells, or why there is none. The
// files are those that are read, the first of which has as many tuples at least.
func lay(w *file.Work, width int, from next, read ...file.File) (file.File, api.Errno) {
	x, e := write(w, width, read)
	if e != api.OK {
		return file.File{}, e
	}
	defer x.Drop() // it does nothing to a writer that is closed by then
	if e := pour(from, x.Put); e != api.OK {
		return file.File{}, e
	}
	return x.Close()
}

// pour hands all tuples that from tells to put, up to the first error.
func pour(from next, put func(t api.Tuple) api.Errno) api.Errno {
	for {
		t, ok, e := from()
		if e != api.OK || !ok {
			return e
		}
		if e := put(t); e != api.OK {
			return e
		}
	}
}

// write answers a writer for as many tuples as the first of the files that are read has. It
// takes none of their blocks, not even such as are free: the files have to stay.
func write(w *file.Work, width int, read []file.File) (*file.Writer, api.Errno) {
	for _, f := range read {
		for _, x := range shared(w.Space().Extents(), f) {
			if w.Space().Hold(x.First, x.Blocks) == api.OK {
				defer w.Space().Give(x.First, x.Blocks)
			}
		}
	}
	return w.Write(width, min(read[0].Count, mostBound))
}

// shared answers the blocks of the extents that are f's, too.
func shared(extents []space.Extent, f file.File) []space.Extent {
	var l []space.Extent
	for _, x := range extents {
		first, end := max(x.First, f.First), min(x.First+x.Blocks, f.First+f.Blocks)
		if first < end {
			l = append(l, space.Extent{First: first, Blocks: end - first})
		}
	}
	return l
}
