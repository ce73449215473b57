package rank

import (
	"math"

	"abutment/api"
	"abutment/extsort"
	"abutment/file"
	"abutment/join"
	"abutment/tuple"
)

// step makes a file, or answers why it can't.
type step func() (file.File, api.Errno)

// cut answers the step that makes a file of those columns of f that o names.
func cut(w *file.Work, f file.File, o tuple.Order) step {
	return func() (file.File, api.Errno) { return join.Cut(w, f, o) }
}

// sorted answers the file that the step makes, sorted by o; once tells whether of tuples that
// are alike the first one alone stays.
func sorted(w *file.Work, made step, o tuple.Order, once bool) (file.File, api.Errno) {
	f, e := made()
	if e != api.OK {
		return file.File{}, e
	}
	g, e := extsort.Sort(w, f, o, once)
	if e != api.OK {
		w.Free(f)
	}
	return g, e
}

// each hands the tuples of f to do, one by one, up to the first error.
func each(w *file.Work, f file.File, do func(t api.Tuple) api.Errno) api.Errno {
	r, e := w.Read(f)
	if e != api.OK {
		return e
	}
	defer r.Close()
	for {
		t, ok, e := r.Next()
		if e != api.OK || !ok {
			return e
		}
		if e := do(t); e != api.OK {
			return e
		}
	}
}

// match answers a file, as wide as lists are, of what how makes of each tuple of a, and of the
// first one of b in whose column 0 stands what does in its column key; ok tells whether there
// is one. Both must rise by these columns. (Layer 13 looks for one column at a time: for two
// that would be twice as many acts, on tuples of more columns.)
func match(w *file.Work, a file.File, key int, b file.File, how func(t, found api.Tuple, ok bool) api.Tuple) (file.File, api.Errno) {
	table, e := w.Read(b)
	if e != api.OK {
		return file.File{}, e
	}
	defer table.Close()
	x, e := w.Write(width, a.Count)
	if e != api.OK {
		return file.File{}, e
	}
	defer x.Drop() // it does nothing to a writer that is closed by then
	find := finder(table)
	e = each(w, a, func(t api.Tuple) api.Errno {
		found, ok, e := find(t[key])
		if e != api.OK {
			return e
		}
		return x.Put(how(t, found, ok))
	})
	if e != api.OK {
		return file.File{}, e
	}
	return x.Close()
}

// finder answers a closure that answers the first tuple of r in whose column 0 a key stands,
// and true, or any one, and false. The keys, None at least, must rise, and so must the tuples.
func finder(r *file.Reader) func(key int64) (api.Tuple, bool, api.Errno) {
	at, ok := api.Tuple{math.MinInt64}, true // ahead of the first one
	return func(key int64) (api.Tuple, bool, api.Errno) {
		for ok && at[0] < key {
			var e api.Errno
			at, ok, e = r.Next()
			if e != api.OK {
				return api.Tuple{}, false, e
			}
		}
		return at, ok && at[0] == key, api.OK
	}
}
