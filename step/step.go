// Package step has what all those layers share that make files of files, step by step: what
// they ask ahead of it, and the kinds of steps.
package step

import (
	"abutment/api"
	"abutment/extsort"
	"abutment/file"
	"abutment/join"
	"abutment/tuple"
)

// Step makes a file, or answers why it can't. Behind an error nothing more is taken or granted.
type Step func() (file.File, api.Errno)

// Cut answers the step that makes a file of those columns of f that o names.
func Cut(w *file.Work, f file.File, o tuple.Order) Step {
	return func() (file.File, api.Errno) { return join.Cut(w, f, o) }
}

// Change answers the step that makes a file of what how makes of each tuple of f, where how
// also answers true.
func Change(w *file.Work, f file.File, width int, how func(t api.Tuple) (api.Tuple, bool)) Step {
	return func() (file.File, api.Errno) {
		return Write(w, width, f.Count, func(put Put) api.Errno {
			return Each(w, f, func(t api.Tuple) api.Errno {
				if made, ok := how(t); ok {
					return put(made)
				}
				return api.OK
			})
		})
	}
}

// Match answers the step that makes a file of what how makes of each tuple of a, and of the
// first one of b in whose column 0 stands what does in its column key, where how also answers
// true; found tells whether b has one. Both must rise by these columns. (Layer 13 looks for one
// column at a time, and leaves no tuple out.)
func Match(w *file.Work, a file.File, key int, b file.File, width int, how func(t, of api.Tuple, found bool) (api.Tuple, bool)) Step {
	return func() (file.File, api.Errno) {
		table, e := w.Read(b)
		if e != api.OK {
			return file.File{}, e
		}
		defer table.Close()
		find := finder(table.Next)
		return Write(w, width, a.Count, func(put Put) api.Errno {
			return Each(w, a, func(t api.Tuple) api.Errno {
				of, found, e := find(t[key])
				if e != api.OK {
					return e
				}
				if made, ok := how(t, of, found); ok {
					return put(made)
				}
				return api.OK
			})
		})
	}
}

// finder answers a closure that answers the first tuple that next gives in whose column 0 a key
// stands, and true, or a zero one, and false. The keys must rise, and so must the tuples.
func finder(next func() (api.Tuple, bool, api.Errno)) func(key int64) (api.Tuple, bool, api.Errno) {
	var at api.Tuple
	hasOne, hasMore := false, true
	return func(key int64) (api.Tuple, bool, api.Errno) {
		for hasMore && (!hasOne || at[0] < key) {
			var e api.Errno
			at, hasMore, e = next()
			if e != api.OK {
				return api.Tuple{}, false, e
			}
			hasOne = true
		}
		if !hasMore || at[0] != key {
			return api.Tuple{}, false, api.OK
		}
		return at, true, api.OK
	}
}

// Sorted answers the file that the step makes, sorted by o; once tells whether of tuples that
// are alike the first one alone stays.
func Sorted(w *file.Work, made Step, o tuple.Order, once bool) (file.File, api.Errno) {
	f, e := made()
	if e != api.OK {
		return file.File{}, e
	}
	g, e := extsort.Sort(w, f, o, once)
	if e != api.OK {
		w.Free(f)
	}
	return g, e
}
