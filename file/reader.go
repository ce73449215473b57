package file

import (
	"abutment/api"
	"abutment/arena"
	"abutment/seal"
)

// Reader tells the tuples of a file, one by one. A zero one is closed.
type Reader struct {
	shape
	work  *Work
	file  File
	count int        // how many tuples were told
	buf   *arena.Buf // the tuples of the block that was read last
}

// Read answers a reader of f, or why there can't be one.
func (w *Work) Read(f File) (*Reader, api.Errno) {
	s := w.shapeOf(f.Width)
	if s.holds == 0 || f.Count < 0 || f.Blocks != s.blocks(f.Count) {
		return nil, api.ErrArg
	}
	buf, e := w.arena.Grant(w.device.Size())
	if e != api.OK {
		return nil, e
	}
	return &Reader{shape: s, work: w, file: f, buf: buf}, api.OK
}

// isClosed tells whether the reader tells no tuples any more.
func (r *Reader) isClosed() bool {
	return r == nil || !stands(r.buf)
}

// Next answers the next tuple, and true, or a zero one and false, if there is none, or why it
// can't be told. Behind an error the reader is closed.
func (r *Reader) Next() (api.Tuple, bool, api.Errno) {
	switch {
	case r.isClosed():
		return api.Tuple{}, false, api.ErrArg
	case r.count == r.file.Count:
		return api.Tuple{}, false, api.OK
	}
	if r.count%r.holds == 0 {
		if e := r.readBlock(); e != api.OK {
			r.Close()
			return api.Tuple{}, false, e
		}
	}
	var t api.Tuple
	for i, x := range r.place(r.buf.W, r.count) {
		t[i] = int64(x)
	}
	r.count++
	return t, true, api.OK
}

// readBlock reads the block that the next tuple stands in.
func (r *Reader) readBlock() api.Errno {
	k := r.count / r.holds
	at := r.file.First + k
	block, e := r.work.device.Read(at)
	if e != api.OK {
		return e
	}
	payload, tag, e := seal.Get(block, at)
	if e != api.OK {
		return e
	}
	// A block of another file may be sealed at that number, too.
	if tag != uint64(r.width) || len(payload) != r.words(k, r.file.Count) {
		return api.ErrFault
	}
	copy(r.buf.W, payload)
	return api.OK
}

// Close closes the reader, if it isn't closed.
func (r *Reader) Close() {
	if !r.isClosed() {
		r.work.arena.Release(r.buf)
	}
}
