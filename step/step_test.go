package step

import (
	"math"
	"slices"
	"testing"

	"abutment/api"
	"abutment/file"
	"abutment/space"
	"abutment/trial"
	"abutment/tuple"
)

// laid answers the file of those tuples.
func laid(t *testing.T, w *file.Work, width int, l ...api.Tuple) file.File {
	t.Helper()
	f, e := w.Lay(width, l)
	if e != api.OK {
		t.Fatalf("Lay(%d, %v): error %d", width, l, e)
	}
	return f
}

// makes wants that a step makes a file of those tuples, and that nothing else is taken or
// granted.
func makes(t *testing.T, w *file.Work, made Step, width int, l ...api.Tuple) {
	t.Helper()
	free := w.Space().Free()
	f, e := made()
	if e != api.OK || w.Space().Free() != free-f.Blocks || w.Arena().Used() != 0 {
		t.Fatalf("%v, error %d, %d words are granted", f, e, w.Arena().Used())
	}
	trial.Lists(t, w, f, trial.Table{Width: width, List: l})
	w.Free(f)
}

// makesNone wants that a step answers e, and that nothing is taken or granted.
func makesNone(t *testing.T, w *file.Work, made Step, e api.Errno) {
	t.Helper()
	free := w.Space().Extents()
	f, got := made()
	if f != (file.File{}) || got != e || !slices.Equal(w.Space().Extents(), free) || w.Arena().Used() != 0 {
		t.Fatalf("%v, error %d, not %d, %d words are granted", f, got, e, w.Arena().Used())
	}
}

// failing wants that a step answers an error that comes at each of its acts.
func failing(t *testing.T, w *file.Work, made Step) {
	t.Helper()
	acts := w.Device().Acts()
	f, _ := made()
	w.Free(f)
	for n := range w.Device().Acts() - acts {
		w.Device().SetFault(n)
		makesNone(t, w, made, api.ErrFault)
	}
	w.Device().SetFault(-1)
	grant, _ := w.Arena().Grant(w.Arena().Room())
	w.Device().SetFuse(0)
	if f, e := made(); f != (file.File{}) || e != api.ErrRoom {
		t.Fatalf("%v, error %d", f, e)
	}
	w.Device().SetFuse(-1)
	w.Arena().Release(grant)
	w.Space().Take(w.Space().Free())
	makesNone(t, w, made, api.ErrFull)
}

// Ask: a file that isn't as it has to be, each of several, is told ahead of too little room.
func TestAsk(t *testing.T) {
	w := trial.Made(t, 8, 9, 64)
	f, g := laid(t, w, 3, api.Tuple{1}, api.Tuple{2}, api.Tuple{3}), laid(t, w, 2, api.Tuple{4})
	ask := func(want api.Errno, l ...Given) {
		t.Helper()
		if e := Ask(w, l...); e != want || w.Arena().Used() > 63 {
			t.Fatalf("Ask(%v): error %d, not %d", l, e, want)
		}
	}
	wrong := g
	wrong.Count = 4
	for _, granted := range []int{0, 1} {
		ask(api.Errno(7*granted), Given{f, 3}, Given{g, 2}, Given{file.File{Width: 5}, 5})
		ask(api.Errno(7 * granted))
		for _, x := range []Given{{f, 2}, {g, 3}, {wrong, 2}, {file.File{}, 0}, {file.File{Width: 6}, 6}} {
			ask(api.ErrArg, x)
			ask(api.ErrArg, Given{f, 3}, x)
			ask(api.ErrArg, x, Given{g, 2})
		}
		w.Arena().Grant(1)
	}
	w = nil
	ask(api.ErrArg, Given{file.File{Width: 3}, 3})
}

// Hold: the blocks of files that are free aren't any more, till they are let be.
func TestHold(t *testing.T) {
	for _, x := range []struct {
		files []file.File
		want  []space.Extent
	}{
		{nil, []space.Extent{{First: 3, Blocks: 4}, {First: 9, Blocks: 11}}},
		{[]file.File{{First: 3, Blocks: 4}}, []space.Extent{{First: 9, Blocks: 11}}},
		{[]file.File{{First: 4, Blocks: 1}, {First: 4, Blocks: 8}}, []space.Extent{{First: 3, Blocks: 1}, {First: 12, Blocks: 8}}},
		{[]file.File{{First: 7, Blocks: 2}, {First: 0, Blocks: 3}, {First: 20, Blocks: 5}}, []space.Extent{{First: 3, Blocks: 4}, {First: 9, Blocks: 11}}},
		{[]file.File{{First: 0, Blocks: 99}}, nil},
		{[]file.File{{First: 19, Blocks: math.MaxInt}, {First: math.MinInt, Blocks: 9}}, []space.Extent{{First: 3, Blocks: 4}, {First: 9, Blocks: 10}}},
		{[]file.File{{First: math.MaxInt, Blocks: 1}, {First: -5, Blocks: 10}, {First: 10}}, []space.Extent{{First: 5, Blocks: 2}, {First: 9, Blocks: 11}}},
	} {
		w := trial.Made(t, 8, 17, 64)
		w.Space().Hold(7, 2)
		was := w.Space().Extents()
		let := Hold(w, x.files...)
		if is := w.Space().Extents(); !slices.Equal(is, x.want) {
			t.Errorf("Hold(%v): %v, not %v", x.files, is, x.want)
		}
		let()
		if is := w.Space().Extents(); !slices.Equal(is, was) {
			t.Errorf("behind Hold(%v): %v, not %v", x.files, is, was)
		}
	}
}

// Write: up to so many tuples, and what becomes of errors.
func TestWrite(t *testing.T) {
	w := trial.Made(t, 8, 9, 64)
	writing := func(bound, n int, e api.Errno) Step {
		return func() (file.File, api.Errno) {
			return Write(w, 2, bound, func(put Put) api.Errno {
				for i := range n {
					if e := put(api.Tuple{int64(i), 7}); e != api.OK {
						return e
					}
				}
				return e
			})
		}
	}
	makes(t, w, writing(0, 0, api.OK), 2)
	makes(t, w, writing(27, 4, api.OK), 2, api.Tuple{0, 7}, api.Tuple{1, 7}, api.Tuple{2, 7}, api.Tuple{3, 7})
	makesNone(t, w, writing(27, 4, api.ErrFormat), api.ErrFormat)
	makesNone(t, w, writing(4, 5, api.OK), api.ErrFull)
	for _, bound := range []int{28, 100 * api.MostBlocks, 100*api.MostBlocks + 1, math.MaxInt} {
		makesNone(t, w, writing(bound, 0, api.OK), api.ErrFull)
	}
	makesNone(t, w, writing(-1, 0, api.OK), api.ErrArg)
	failing(t, w, writing(7, 7, api.OK))
}

// Each: all tuples, one by one, up to the first error.
func TestEach(t *testing.T) {
	w := trial.Made(t, 8, 9, 64)
	f := laid(t, w, 1, api.Tuple{5}, api.Tuple{6}, api.Tuple{7})
	for stop := range int64(9) {
		var l []int64
		want := api.OK
		if stop >= 5 && stop <= 7 {
			want = api.ErrNone
		}
		e := Each(w, f, func(x api.Tuple) api.Errno {
			l = append(l, x[0])
			if x[0] == stop {
				return api.ErrNone
			}
			return api.OK
		})
		n := 3
		if want != api.OK {
			n = int(stop) - 4
		}
		if e != want || !slices.Equal(l, []int64{5, 6, 7}[:n]) || w.Arena().Used() != 0 {
			t.Errorf("up to %d: %v, error %d", stop, l, e)
		}
	}
	w.Device().SetFault(0)
	if e := Each(w, f, func(api.Tuple) api.Errno { return api.OK }); e != api.ErrFault || w.Arena().Used() != 0 {
		t.Errorf("error %d", e)
	}
}

// Cut and Change: of one file.
func TestOneFile(t *testing.T) {
	w := trial.Made(t, 8, 30, 64)
	f := laid(t, w, 3, api.Tuple{1, 2, 3}, api.Tuple{4, 5, 6}, api.Tuple{7, 8, 9})
	cut := Cut(w, f, tuple.Order{3, -1})
	makes(t, w, cut, 2, api.Tuple{3, 1}, api.Tuple{6, 4}, api.Tuple{9, 7})
	odd := Change(w, f, 1, func(t api.Tuple) (api.Tuple, bool) { return api.Tuple{t[0] + t[1]}, t[0]%2 == 1 })
	makes(t, w, odd, 1, api.Tuple{3}, api.Tuple{15})
	makes(t, w, Change(w, file.File{Width: 3}, 2, nil), 2)
	failing(t, w, odd)
}

// Match: each tuple, with the first one that has its key, or none.
func TestMatch(t *testing.T) {
	w := trial.Made(t, 8, 60, 64)
	a := laid(t, w, 2, api.Tuple{0, math.MinInt64}, api.Tuple{1, -1}, api.Tuple{2, 0}, api.Tuple{3, 0}, api.Tuple{4, 3}, api.Tuple{5, 6}, api.Tuple{6, math.MaxInt64})
	both := func(t, of api.Tuple, found bool) (api.Tuple, bool) {
		if !found {
			return api.Tuple{t[0], of[0], of[1]}, t[0] != 4
		}
		return api.Tuple{t[0], t[1], of[1]}, t[0] != 3
	}
	b := laid(t, w, 2, api.Tuple{-1, 10}, api.Tuple{0, 20}, api.Tuple{0, 30}, api.Tuple{2, 40}, api.Tuple{6, 50}, api.Tuple{6, 60})
	makes(t, w, Match(w, a, 1, b, 3, both), 3, api.Tuple{0}, api.Tuple{1, -1, 10}, api.Tuple{2, 0, 20}, api.Tuple{5, 6, 50}, api.Tuple{6})
	makes(t, w, Match(w, a, 1, file.File{Width: 2}, 3, both), 3, api.Tuple{0}, api.Tuple{1}, api.Tuple{2}, api.Tuple{3}, api.Tuple{5}, api.Tuple{6})
	makes(t, w, Match(w, file.File{Width: 2}, 1, b, 3, both), 3)
	least := laid(t, w, 2, api.Tuple{math.MinInt64, 8}, api.Tuple{math.MaxInt64, 9})
	makes(t, w, Match(w, a, 1, least, 3, both), 3, api.Tuple{0, math.MinInt64, 8}, api.Tuple{1}, api.Tuple{2}, api.Tuple{3}, api.Tuple{5}, api.Tuple{6, math.MaxInt64, 9})
	failing(t, w, Match(w, a, 1, b, 3, both))
}

// Sorted: what a step makes, sorted; what it makes is given back, if it can't be sorted.
func TestSorted(t *testing.T) {
	w := trial.Made(t, 8, 60, 64)
	f := laid(t, w, 2, api.Tuple{3, 1}, api.Tuple{1, 2}, api.Tuple{3, 3}, api.Tuple{2, 4})
	sorting := func(once bool) Step {
		return func() (file.File, api.Errno) { return Sorted(w, Cut(w, f, tuple.Order{1, 2}), tuple.Order{-1}, once) }
	}
	makes(t, w, sorting(false), 2, api.Tuple{3, 1}, api.Tuple{3, 3}, api.Tuple{2, 4}, api.Tuple{1, 2})
	makes(t, w, sorting(true), 2, api.Tuple{3, 1}, api.Tuple{2, 4}, api.Tuple{1, 2})
	failing(t, w, sorting(false))
}
