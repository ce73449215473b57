package step

import (
	"abutment/api"
	"abutment/file"
)

// mostTuples is how many tuples layer 10 makes a file of at most.
const mostTuples = 100 * api.MostBlocks

// Put hands a tuple on to the file that is being made.
type Put func(t api.Tuple) api.Errno

// Write answers the file of the tuples that fill puts, bound at most, or why there is none.
func Write(w *file.Work, width, bound int, fill func(put Put) api.Errno) (file.File, api.Errno) {
	if bound > mostTuples {
		return file.File{}, api.ErrFull
	}
	x, e := w.Write(width, bound)
	if e != api.OK {
		return file.File{}, e
	}
	defer x.Drop() // it does nothing to a writer that is closed by then
	if e := fill(x.Put); e != api.OK {
		return file.File{}, e
	}
	return x.Close()
}

// Each hands the tuples of f to do, one by one, up to the first error.
func Each(w *file.Work, f file.File, do func(t api.Tuple) api.Errno) api.Errno {
	r, e := w.Read(f)
	if e != api.OK {
		return e
	}
	defer r.Close()
	for {
		t, ok, e := r.Next()
		if e != api.OK || !ok {
			return e
		}
		if e := do(t); e != api.OK {
			return e
		}
	}
}
