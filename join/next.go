package join

import (
	"abutment/api"
)

// next answers the next tuple, and true, or a zero one and false, if there is none, or why it
// can't be told: a file's reader has such a method, and so has all that is made of one.
type next func() (api.Tuple, bool, api.Errno)

// rising tells the tuples that from tells, as long as they rise by the column.
type rising struct {
	from     next
	column   int
	strictly bool
	told     bool  // whether a tuple was told
	last     int64 // what stands in the column of the one that was told last
}

// next answers the next tuple, or ErrFormat, if it doesn't rise.
func (r *rising) next() (api.Tuple, bool, api.Errno) {
	t, ok, e := r.from()
	if e != api.OK || !ok {
		return api.Tuple{}, false, e
	}
	x := t[r.column]
	if r.told && (x < r.last || x == r.last && r.strictly) {
		return api.Tuple{}, false, api.ErrFormat
	}
	r.told, r.last = true, x
	return t, true, api.OK
}

// looking tells the tuples that asked tells, with what is known of their key in the column to.
type looking struct {
	asked, known   next
	key, value, to int
	come, ended    bool      // whether a tuple of known was come to, and whether there is no further one
	row            api.Tuple // the one that was come to last
}

// next answers the next tuple.
func (l *looking) next() (api.Tuple, bool, api.Errno) {
	t, ok, e := l.asked()
	if e != api.OK || !ok {
		return api.Tuple{}, false, e
	}
	x, e := l.find(t[l.key])
	if e != api.OK {
		return api.Tuple{}, false, e
	}
	t[l.to] = x
	return t, true, api.OK
}

// find answers what is known of a key that isn't below those that were asked for ahead of it,
// or None. No tuple behind the first one that isn't below the key is come to.
func (l *looking) find(key int64) (int64, api.Errno) {
	for !l.ended && (!l.come || l.row[0] < key) {
		t, ok, e := l.known()
		if e != api.OK {
			return 0, e
		}
		l.row, l.come, l.ended = t, true, !ok
	}
	if l.ended || l.row[0] > key {
		return api.None, api.OK
	}
	return l.row[l.value], api.OK
}

// changed tells what change makes of the tuples that from tells, but for those beside which it
// answers false.
type changed struct {
	from   next
	change func(t api.Tuple) (api.Tuple, bool)
}

// next answers the next tuple.
func (c changed) next() (api.Tuple, bool, api.Errno) {
	for {
		t, ok, e := c.from()
		if e != api.OK || !ok {
			return api.Tuple{}, false, e
		}
		if t, ok := c.change(t); ok {
			return t, true, api.OK
		}
	}
}
