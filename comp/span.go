package comp

import (
	"abutment/api"
	"abutment/file"
	"abutment/join"
	"abutment/step"
	"abutment/tuple"
)

// span is what spans arcs: a file of two columns, each vertex at which arcs are, rising, and
// its TOP, one and the same vertex for all that are connected; and a file of one column, the
// numbers of the forest's edges, in any order, each once or more.
type span struct{ tops, chosen file.File }

// free gives the blocks of both back.
func (s span) free(w *file.Work) {
	w.Free(s.tops)
	w.Free(s.chosen)
}

// spanning answers what spans the arcs, which are sorted, and gives their blocks back, also
// behind an error. Each vertex grows together with another one, so that half as many are left
// at most, and then what is left is spanned: it goes no deeper than MostVertex can be halved.
func spanning(w *file.Work, arcs file.File) (span, api.Errno) {
	low, left, e := grow(w, arcs)
	w.Free(arcs)
	if e != api.OK || left.Count == 0 {
		return low, e
	}
	defer low.free(w)
	high, e := spanning(w, left)
	if e != api.OK {
		return span{}, e
	}
	defer high.free(w)
	return stack(w, low, high)
}

// grow lets each vertex grow together with the one to which its arc of the least number leads,
// and answers what spans them by these arcs alone, and the arcs that are left, between tops.
func grow(w *file.Work, arcs file.File) (span, file.File, api.Errno) {
	hooks, e := step.Sorted(w, leastOf(w, arcs), tuple.Order{1}, false)
	if e != api.OK {
		return span{}, file.File{}, e
	}
	defer w.Free(hooks)
	tops, e := climb(w, hooks)
	if e != api.OK {
		return span{}, file.File{}, e
	}
	left, e := lift(w, arcs, tops)
	if e != api.OK {
		w.Free(tops)
		return span{}, file.File{}, e
	}
	chosen, e := join.Cut(w, hooks, tuple.Order{1})
	if e != api.OK {
		w.Free(tops)
		w.Free(left)
		return span{}, file.File{}, e
	}
	return span{tops, chosen}, left, api.OK
}

// leastOf answers the step that makes the hooks: of each vertex its arc of the least number,
// as that number, the vertex, and where the arc leads.
func leastOf(w *file.Work, arcs file.File) step.Step {
	return func() (file.File, api.Errno) {
		return step.Write(w, width, arcs.Count, func(put step.Put) api.Errno {
			least := api.Tuple{0, api.None}
			e := step.Each(w, arcs, func(t api.Tuple) api.Errno {
				hook, ahead := api.Tuple{t[2], t[0], t[1]}, least
				switch {
				case hook[1] != ahead[1]:
					least = hook
					if ahead[1] != api.None {
						return put(ahead)
					}
				case hook[0] < ahead[0]:
					least = hook
				}
				return api.OK
			})
			if e != api.OK || least[1] == api.None {
				return e
			}
			return put(least)
		})
	}
}

// climb answers the tops of the vertices of the hooks, which are sorted by their numbers. Along
// hooks the numbers fall, up to an edge that is the hook of both its ends: that end is the top
// which stands behind the other.
func climb(w *file.Work, hooks file.File) (file.File, api.Errno) {
	last := int64(api.None)
	up := step.Change(w, hooks, 2, func(t api.Tuple) (api.Tuple, bool) {
		if t[0] == last {
			return api.Tuple{t[1], t[1]}, true
		}
		last = t[0]
		return api.Tuple{t[1], t[2]}, true
	})
	ups, e := step.Sorted(w, up, tuple.Order{1}, false)
	for hasMore := true; e == api.OK && hasMore; {
		ups, hasMore, e = leap(w, ups)
	}
	return ups, e
}

// leap answers of each vertex the one that is above it twice as far, or its top, and whether
// that changed one. It gives the blocks of ups back, also behind an error.
func leap(w *file.Work, ups file.File) (file.File, bool, api.Errno) {
	defer w.Free(ups)
	asked, e := step.Sorted(w, step.Cut(w, ups, tuple.Order{1, 2}), tuple.Order{2}, false)
	if e != api.OK {
		return file.File{}, false, e
	}
	defer w.Free(asked)
	hasChanged := false
	jump := step.Match(w, asked, 1, ups, 2, func(t, up api.Tuple, _ bool) (api.Tuple, bool) {
		hasChanged = hasChanged || t[1] != up[1]
		return api.Tuple{t[0], up[1]}, true
	})
	higher, e := step.Sorted(w, jump, tuple.Order{1}, false)
	return higher, hasChanged, e
}

// lift answers the arcs as they lead from top to top, sorted, without those that would be loops.
// Of arcs with the same ends only the one of the least number is left, as no other one is ever a
// hook.
func lift(w *file.Work, arcs, tops file.File) (file.File, api.Errno) {
	var last api.Tuple // no arc leads from 0 to 0
	begin := step.Match(w, arcs, 0, tops, width, func(t, top api.Tuple, _ bool) (api.Tuple, bool) {
		isOther := t[0] != last[0] || t[1] != last[1]
		last = t
		return api.Tuple{t[1], top[1], t[2]}, isOther
	})
	begun, e := step.Sorted(w, begin, tuple.Order{1}, false)
	if e != api.OK {
		return file.File{}, e
	}
	defer w.Free(begun)
	end := step.Match(w, begun, 0, tops, width, func(t, top api.Tuple, _ bool) (api.Tuple, bool) {
		return api.Tuple{t[1], top[1], t[2]}, t[1] != top[1]
	})
	return step.Sorted(w, end, tuple.Order{1, 2, 3}, false)
}

// stack answers what spans the arcs that low doesn't span whole, as high spans what it left.
func stack(w *file.Work, low, high span) (span, api.Errno) {
	asked, e := step.Sorted(w, step.Cut(w, low.tops, tuple.Order{1, 2}), tuple.Order{2}, false)
	if e != api.OK {
		return span{}, e
	}
	defer w.Free(asked)
	rise := step.Match(w, asked, 1, high.tops, 2, func(t, top api.Tuple, found bool) (api.Tuple, bool) {
		if found {
			t[1] = top[1]
		}
		return t, true
	})
	tops, e := step.Sorted(w, rise, tuple.Order{1}, false)
	if e != api.OK {
		return span{}, e
	}
	chosen, e := step.Write(w, 1, low.chosen.Count+high.chosen.Count, func(put step.Put) api.Errno {
		if e := step.Each(w, low.chosen, put); e != api.OK {
			return e
		}
		return step.Each(w, high.chosen, put)
	})
	if e != api.OK {
		w.Free(tops)
		return span{}, e
	}
	return span{tops, chosen}, api.OK
}
