package file

import (
	"abutment/api"
	"abutment/arena"
	"abutment/seal"
	"abutment/space"
)

// Writer makes a file of the tuples that are put to it. A zero one is closed.
type Writer struct {
	shape
	work  *Work
	bound int
	count int // how many tuples were put
	taken space.Extent
	buf   *arena.Buf // those tuples that stand in no block yet
}

// Write answers a writer of tuples of that width, for at most bound ones, or why there can't
// be one.
func (w *Work) Write(width, bound int) (*Writer, api.Errno) {
	s := w.shapeOf(width)
	if s.holds == 0 || bound < 0 || bound > mostBound {
		return nil, api.ErrArg
	}
	taken, e := w.take(s.blocks(bound))
	if e != api.OK {
		// The room is only asked for here: a grant that had to be released again would be left
		// in the arena's peak.
		if w.arena.Left() < w.device.Size() {
			e = api.ErrRoom
		}
		return nil, e
	}
	buf, e := w.arena.Grant(w.device.Size())
	if e != api.OK {
		w.give(taken)
		return nil, e
	}
	return &Writer{shape: s, work: w, bound: bound, taken: taken, buf: buf}, api.OK
}

// take takes n blocks of the space, one behind the other, which may be none.
func (w *Work) take(n int) (space.Extent, api.Errno) {
	if n == 0 {
		return space.Extent{}, api.OK
	}
	first, e := w.space.Take(n)
	if e != api.OK {
		return space.Extent{}, e
	}
	return space.Extent{First: first, Blocks: n}, api.OK
}

// give gives those blocks back to the space, which may be none.
func (w *Work) give(x space.Extent) {
	if x.Blocks > 0 {
		w.space.Give(x.First, x.Blocks)
	}
}

// isClosed tells whether the writer takes no tuples any more.
func (x *Writer) isClosed() bool {
	return x == nil || !stands(x.buf)
}

// Put makes t the last tuple, or answers why it can't. Behind an error of a block that is
// written the writer is closed.
func (x *Writer) Put(t api.Tuple) api.Errno {
	switch {
	case x.isClosed() || !isWithin(t, x.width):
		return api.ErrArg
	case x.count == x.bound:
		return api.ErrFull
	}
	columns := x.place(x.buf.W, x.count)
	for i := range columns {
		columns[i] = uint64(t[i])
	}
	x.count++
	if x.count%x.holds > 0 {
		return api.OK
	}
	return x.writeLast()
}

// isWithin tells whether t has nothing in its columns from width on.
func isWithin(t api.Tuple, width int) bool {
	clear(t[:width]) // of the copy that was handed on
	return t == api.Tuple{}
}

// writeLast writes the block that the last tuple stands in. Behind an error the writer is
// closed.
func (x *Writer) writeLast() api.Errno {
	k := x.blocks(x.count) - 1
	at := x.taken.First + k
	d := x.work.device
	block, e := seal.Put(d.Size(), at, uint64(x.width), x.buf.W[:x.words(k, x.count)])
	if e == api.OK {
		e = d.Write(at, block)
	}
	if e != api.OK {
		x.Drop()
	}
	return e
}

// Close answers the file of all tuples that were put, or why there is none. The writer is
// closed then.
func (x *Writer) Close() (File, api.Errno) {
	if x.isClosed() {
		return File{}, api.ErrArg
	}
	if x.count%x.holds > 0 {
		if e := x.writeLast(); e != api.OK {
			return File{}, e
		}
	}
	f := File{Width: x.width, Count: x.count}
	if x.count > 0 {
		f.First, f.Blocks = x.taken.First, x.blocks(x.count)
	}
	x.end(f.Blocks)
	return f, api.OK
}

// Drop closes the writer, if it isn't closed; there is no file.
func (x *Writer) Drop() {
	if !x.isClosed() {
		x.end(0)
	}
}

// end closes the writer; of its blocks it keeps so many, the first ones.
func (x *Writer) end(kept int) {
	x.work.give(space.Extent{First: x.taken.First + kept, Blocks: x.taken.Blocks - kept})
	x.work.arena.Release(x.buf)
}
