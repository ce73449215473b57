package extsort

import (
	"abutment/api"
	"abutment/tuple"
)

// source tells tuples one by one, as a file's reader does.
type source interface {
	Next() (api.Tuple, bool, api.Errno)
}

// sink takes tuples one by one, as a file's writer does.
type sink interface {
	Put(t api.Tuple) api.Errno
}

// pour puts all tuples of from to the sink, up to the first error.
func pour(from source, to sink) api.Errno {
	for {
		t, ok, e := from.Next()
		if e != api.OK || !ok {
			return e
		}
		if e := to.Put(t); e != api.OK {
			return e
		}
	}
}

// nowhere is a sink that keeps nothing.
type nowhere struct{}

// Put takes t.
func (nowhere) Put(api.Tuple) api.Errno {
	return api.OK
}

// firsts is a sink that hands on the first one of tuples that are alike by the order, and
// come one behind the other.
type firsts struct {
	to     sink
	order  tuple.Order
	handed bool // whether there was one
	last   api.Tuple
}

// Put hands t on, unless it is like the last one that was.
func (x *firsts) Put(t api.Tuple) api.Errno {
	if x.handed && tuple.Compare(x.last, t, x.order) == 0 {
		return api.OK
	}
	x.handed, x.last = true, t
	return x.to.Put(t)
}
