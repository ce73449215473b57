package extsort

import (
	"sort"

	"abutment/api"
	"abutment/file"
	"abutment/tuple"
)

// rows are tuples of one width in words of the arena.
type rows struct {
	width int
	words []uint64
}

// row answers the words of the tuple i.
func (r rows) row(i int) []uint64 {
	return r.words[i*r.width : (i+1)*r.width]
}

// get answers the tuple i.
func (r rows) get(i int) api.Tuple {
	var t api.Tuple
	for c, x := range r.row(i) {
		t[c] = int64(x)
	}
	return t
}

// set makes t the tuple i.
func (r rows) set(i int, t api.Tuple) {
	for c := range r.row(i) {
		r.row(i)[c] = uint64(t[c])
	}
}

// run is the tuples that are sorted in the arena: a sort.Interface, and then a source.
type run struct {
	rows
	order tuple.Order
	told  int
}

// Len answers how many tuples there are.
func (r *run) Len() int {
	return len(r.words) / r.width
}

// Less tells whether the tuple i is ahead of the tuple j by the order.
func (r *run) Less(i, j int) bool {
	return tuple.Compare(r.get(i), r.get(j), r.order) < 0
}

// Swap lets the tuples i and j change places.
func (r *run) Swap(i, j int) {
	a, b := r.row(i), r.row(j)
	for c := range a {
		a[c], b[c] = b[c], a[c]
	}
}

// Next answers the next tuple, and true, or a zero one and false, if all were told.
func (r *run) Next() (api.Tuple, bool, api.Errno) {
	if r.told == r.Len() {
		return api.Tuple{}, false, api.OK
	}
	t := r.get(r.told)
	r.told++
	return t, true, api.OK
}

// load makes the tuples those that from tells next, of which there are enough.
func (r *run) load(from source) api.Errno {
	for i := range r.Len() {
		t, _, e := from.Next()
		if e != api.OK {
			return e
		}
		r.set(i, t)
	}
	return api.OK
}

// form puts the tuples of f as runs that are sorted in the arena.
func (s *sorting) form(f file.File, to sink) api.Errno {
	from, e := s.work.Read(f)
	if e != api.OK {
		return e
	}
	defer from.Close()
	most := min(f.Count, s.runBlocks*s.holds)
	buf, e := s.work.Arena().Grant(most * s.width)
	if e != api.OK {
		return e
	}
	defer s.work.Arena().Release(buf)
	for left := f.Count; left > 0; left -= most {
		words := buf.W[:min(most, left)*s.width]
		r := &run{rows: rows{width: s.width, words: words}, order: s.order}
		if e := r.load(from); e != api.OK {
			return e
		}
		sort.Stable(r)
		if e := pour(r, to); e != api.OK {
			return e
		}
	}
	return api.OK
}
