package trial

import (
	"testing"

	"abutment/api"
	"abutment/extsort"
	"abutment/file"
	"abutment/join"
	"abutment/step"
	"abutment/tuple"
)

// told is a T that goes no further when it is told something.
type told struct{}

func (told) Helper()               {}
func (told) Fatalf(string, ...any) { panic(told{}) }

// finds tells whether something is wrong with the case.
func finds(c Case) (found bool) {
	defer func() { found = recover() == told{} }()
	c.Holds(told{}, c.Plenty(told{}, small))
	c.Errors(told{})
	return false
}

// copying is a call that makes a copy of its file.
type copying func(w *file.Work, f file.File) (file.File, api.Errno)

// rightly makes the copy as it has to.
func rightly(w *file.Work, f file.File) (file.File, api.Errno) {
	if e := step.Ask(w, step.Given{File: f, Width: 2}); e != api.OK {
		return file.File{}, e
	}
	defer step.Hold(w, f)()
	return copied(w, f)
}

// copied makes it, whatever else.
func copied(w *file.Work, f file.File) (file.File, api.Errno) {
	return step.Change(w, f, 2, func(t api.Tuple) (api.Tuple, bool) { return t, true })()
}

// caseOf is the case of a call of some tuples.
func caseOf(call copying) Case {
	x := Table{2, []api.Tuple{{1, 2}, {3, 4}, {5, 6}, {7, 8}, {9, 10}, {11, 12}, {13, 14}}}
	return Case{Given: []Table{x}, Want: []Table{x}, Call: func(w *file.Work, l []file.File) ([]file.File, api.Errno) {
		f, e := call(w, l[0])
		return []file.File{f}, e
	}}
}

// Nothing is wrong with a call that does as it has to, also where an error is wanted.
func TestRight(t *testing.T) {
	if finds(caseOf(rightly)) {
		t.Error("something is wrong with what is right")
	}
	c := caseOf(func(w *file.Work, f file.File) (file.File, api.Errno) {
		g, e := rightly(w, f)
		if e != api.OK {
			return file.File{}, e
		}
		w.Free(g)
		return file.File{}, api.ErrFormat
	})
	c.Want, c.Err = nil, api.ErrFormat
	if finds(c) {
		t.Error("something is wrong with the right error")
	}
}

// behind answers a call that does something more behind the right one.
func behind(do func(w *file.Work, f, g file.File, e api.Errno) (file.File, api.Errno)) copying {
	return func(w *file.Work, f file.File) (file.File, api.Errno) {
		g, e := rightly(w, f)
		return do(w, f, g, e)
	}
}

// Whatever a call does wrong is found.
func TestWrong(t *testing.T) {
	for name, call := range map[string]copying{
		"it asks for nothing":  copied,
		"it asks for no width": func(w *file.Work, f file.File) (file.File, api.Errno) { return join.Cut(w, f, tuple.Order{1, 2}) },
		"it sorts what is given": func(w *file.Work, f file.File) (file.File, api.Errno) {
			return extsort.Sort(w, f, tuple.Order{1}, false)
		},
		"it holds nothing":         unheld,
		"it needs too much room":   greedy,
		"it needs too little room": modest,
		"it answers another file":  behind(func(w *file.Work, _, g file.File, e api.Errno) (file.File, api.Errno) { g.Count--; return g, e }),
		"it answers the file":      behind(func(w *file.Work, f, g file.File, e api.Errno) (file.File, api.Errno) { w.Free(g); return f, e }),
		"it answers a file beside an error": behind(func(_ *file.Work, f, g file.File, e api.Errno) (file.File, api.Errno) {
			if e != api.OK {
				return f, e
			}
			return g, e
		}),
		"it tells another error": behind(func(_ *file.Work, _, g file.File, e api.Errno) (file.File, api.Errno) { return g, min(e, api.ErrFault) }),
		"it tells no error":      behind(func(_ *file.Work, _, g file.File, _ api.Errno) (file.File, api.Errno) { return g, api.OK }),
		"it takes a block more":  behind(func(w *file.Work, _, g file.File, e api.Errno) (file.File, api.Errno) { w.Space().Take(1); return g, e }),
		"it keeps a grant": behind(func(w *file.Work, _, g file.File, e api.Errno) (file.File, api.Errno) {
			w.Arena().Grant(1)
			return g, e
		}),
		"it frees what is given": behind(func(w *file.Work, f, g file.File, e api.Errno) (file.File, api.Errno) { w.Free(f); return g, e }),
		"it changes what is given": behind(func(w *file.Work, f, g file.File, e api.Errno) (file.File, api.Errno) {
			w.Device().Write(f.First, make([]uint64, w.Device().Size()))
			return g, e
		}),
		"it writes where others wrote": behind(func(w *file.Work, f, g file.File, e api.Errno) (file.File, api.Errno) {
			w.Device().Write(first, make([]uint64, w.Device().Size()))
			return g, e
		}),
	} {
		if !finds(caseOf(call)) {
			t.Errorf("nothing is wrong where %s", name)
		}
	}
}

// unheld asks, but what is free is written to, also where what is given stands there.
func unheld(w *file.Work, f file.File) (file.File, api.Errno) {
	if e := step.Ask(w, step.Given{File: f, Width: 2}); e != api.OK {
		return file.File{}, e
	}
	return copied(w, f)
}

// greedy needs more than the least room.
func greedy(w *file.Work, f file.File) (file.File, api.Errno) {
	if e := step.Ask(w, step.Given{File: f, Width: 2}); e != api.OK {
		return file.File{}, e
	}
	grant, e := w.Arena().Grant(leastBlocks*w.Device().Size() + 1)
	if e != api.OK {
		return file.File{}, e
	}
	w.Arena().Release(grant)
	return rightly(w, f)
}

// modest is done with less than the least room.
func modest(w *file.Work, f file.File) (file.File, api.Errno) {
	if e := step.Ask(w, step.Given{File: f, Width: 2}); e != api.OK && e != api.ErrRoom {
		return file.File{}, e
	}
	defer step.Hold(w, f)()
	return copied(w, f)
}
