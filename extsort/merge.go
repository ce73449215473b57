package extsort

import (
	"container/heap"

	"abutment/api"
	"abutment/file"
	"abutment/tuple"
)

// stream is a run that is merged: its place among the runs, and what reads it.
type stream struct {
	place int
	from  *file.Reader
}

// streams are a heap.Interface of streams, of which the first one tells the next tuple.
type streams struct {
	rows  // the tuple that each stream tells next, at its place
	order tuple.Order
	list  []stream
}

// Len answers how many streams there are.
func (x *streams) Len() int {
	return len(x.list)
}

// Less tells whether the stream i tells its next tuple ahead of the stream j. Of tuples that
// are alike the one goes ahead that stood ahead.
func (x *streams) Less(i, j int) bool {
	a, b := x.list[i].place, x.list[j].place
	c := tuple.Compare(x.get(a), x.get(b), x.order)
	return c < 0 || c == 0 && a < b
}

// Swap lets the streams i and j change places in the heap.
func (x *streams) Swap(i, j int) {
	x.list[i], x.list[j] = x.list[j], x.list[i]
}

// Push puts a stream behind the last one.
func (x *streams) Push(s any) {
	x.list = append(x.list, s.(stream))
}

// Pop takes the last stream away.
func (x *streams) Pop() any {
	n := len(x.list) - 1
	s := x.list[n]
	x.list = x.list[:n]
	return s
}

// Next answers the next tuple of all streams, and true, or a zero one and false, if there is
// none, or why it can't be told.
func (x *streams) Next() (api.Tuple, bool, api.Errno) {
	if x.Len() == 0 {
		return api.Tuple{}, false, api.OK
	}
	first := x.list[0]
	t := x.get(first.place)
	next, ok, e := first.from.Next()
	switch {
	case e != api.OK:
		return api.Tuple{}, false, e
	case ok:
		x.set(first.place, next)
		heap.Fix(x, 0)
	default:
		heap.Pop(x).(stream).from.Close()
	}
	return t, true, api.OK
}

// add puts the run that f is to the heap, behind all runs that were.
func (x *streams) add(w *file.Work, f file.File) api.Errno {
	from, e := w.Read(f)
	if e != api.OK {
		return e
	}
	t, _, e := from.Next()
	if e != api.OK {
		return e // the reader is closed by now
	}
	place := x.Len()
	x.set(place, t)
	heap.Push(x, stream{place: place, from: from})
	return api.OK
}

// close closes all readers.
func (x *streams) close() {
	for _, s := range x.list {
		s.from.Close()
	}
}

// merge puts the tuples of f, which has runs of so many blocks, as one run.
func (s *sorting) merge(f file.File, blocks int, to sink) api.Errno {
	buf, e := s.work.Arena().Grant(min(s.fan, f.Blocks) * s.width)
	if e != api.OK {
		return e
	}
	defer s.work.Arena().Release(buf)
	x := &streams{rows: rows{width: s.width, words: buf.W}, order: s.order}
	defer x.close()
	for at := 0; at < f.Blocks; at += blocks {
		if e := x.add(s.work, s.part(f, at, blocks)); e != api.OK {
			return e
		}
	}
	return pour(x, to)
}
