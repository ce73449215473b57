// Package trial has what the tests of those layers share that make files of files. The program
// itself doesn't call it.
package trial

import (
	"slices"

	"abutment/api"
	"abutment/arena"
	"abutment/device"
	"abutment/file"
	"abutment/space"
)

// first is where the space of each work begins: the blocks ahead of it are another one's.
const first = 3

// T is what is told where something isn't as it has to be, as a *testing.T is.
type T interface {
	Helper()
	Fatalf(format string, l ...any)
}

// Table is what a file has: how wide it is, and its tuples.
type Table struct {
	Width int
	List  []api.Tuple
}

// Case is a call, on files of what is given, and what is wanted of it: as many files, or an
// error. It answers as many, too, beside an error.
type Case struct {
	Given []Table
	Call  func(w *file.Work, l []file.File) ([]file.File, api.Errno)
	Want  []Table
	Err   api.Errno
}

// Made answers a work of blocks of size words, so many of which are the space's, whose arena
// has so much room.
func Made(t T, size, blocks, room int) *file.Work {
	t.Helper()
	d, e := device.New(size, first+blocks)
	w := file.New(d, arena.New(room), space.New(first, blocks))
	if e != api.OK || w == nil {
		t.Fatalf("a work of %d blocks of %d words: error %d", blocks, size, e)
	}
	return w
}

// Plenty answers a work of blocks of size words, of which there are more than the case needs,
// with the least room.
func (c Case) Plenty(t T, size int) *file.Work {
	t.Helper()
	return Made(t, size, c.given(size)+c.most(size), leastBlocks*size)
}

// given is how many blocks what is given has.
func (c Case) given(size int) int {
	n := 0
	for _, x := range c.Given {
		n += BlocksOf(size, x.Width, len(x.List))
	}
	return n
}

// most is more than how many blocks the call needs.
func (c Case) most(size int) int {
	n := 20*c.given(size) + 20
	for _, x := range c.Want {
		n += BlocksOf(size, x.Width, len(x.List))
	}
	return n
}

// BlocksOf is how many blocks of size words n tuples of so many columns need.
func BlocksOf(size, width, n int) int {
	holds := (size - 2) / width
	return (n + holds - 1) / holds
}

// Lay answers the files of what is given.
func (c Case) Lay(t T, w *file.Work) []file.File {
	t.Helper()
	var l []file.File
	for _, x := range c.Given {
		f, e := w.Lay(x.Width, x.List)
		if e != api.OK {
			t.Fatalf("Lay(%d, %d tuples): error %d", x.Width, len(x.List), e)
		}
		l = append(l, f)
	}
	return l
}

// Free gives the files' blocks back.
func Free(t T, w *file.Work, l []file.File) {
	t.Helper()
	for _, f := range l {
		if e := w.Free(f); e != api.OK {
			t.Fatalf("Free(%v): error %d", f, e)
		}
	}
}

// Lists wants that f has just what the table has, in as many blocks as it needs.
func Lists(t T, w *file.Work, f file.File, x Table) {
	t.Helper()
	l, e := w.List(f)
	if e != api.OK || !slices.Equal(l, x.List) || f.Width != x.Width || f.Blocks != BlocksOf(w.Device().Size(), x.Width, len(l)) {
		t.Fatalf("%v has %v, error %d, not %v", f, l, e, x)
	}
}

// Stay wants that the files have what is given.
func (c Case) Stay(t T, w *file.Work, l []file.File) {
	t.Helper()
	for i, f := range l {
		Lists(t, w, f, c.Given[i])
	}
}

// Holds wants of the case, on files that are laid for it, what is wanted, that the files stay,
// and that nothing else is taken or granted. All is given back then.
func (c Case) Holds(t T, w *file.Work) {
	t.Helper()
	l := c.Lay(t, w)
	made := c.On(t, w, l)
	Free(t, w, l)
	Free(t, w, made)
}

// On is like Holds, on files that are handed in. It answers those that were made; nothing is
// given back.
func (c Case) On(t T, w *file.Work, l []file.File) []file.File {
	t.Helper()
	if c.Err != api.OK {
		c.Fails(t, w, l, c.Err)
		c.Stay(t, w, l)
		return nil
	}
	free, used := w.Space().Free(), w.Arena().Used()
	made, e := c.Call(w, l)
	if e != api.OK || len(made) != len(c.Want) {
		t.Fatalf("of %v: %v, error %d, not %v", c.Given, made, e, c.Want)
	}
	for _, f := range made {
		free -= f.Blocks
	}
	if w.Space().Free() != free || w.Arena().Used() != used || w.Arena().Peak() > w.Arena().Room() {
		t.Fatalf("of %v: %v: %d blocks are free, not %d, %d words are granted, %d were at most",
			c.Given, made, w.Space().Free(), free, w.Arena().Used(), w.Arena().Peak())
	}
	for i, f := range made {
		Lists(t, w, f, c.Want[i])
	}
	c.Stay(t, w, l)
	return made
}

// state is what can be seen of a work: the free blocks, the arena's measures, and the device's
// acts.
type state struct {
	free             []space.Extent
	used, peak, acts int
}

// stateOf answers a work's state.
func stateOf(w *file.Work) state {
	return state{w.Space().Extents(), w.Arena().Used(), w.Arena().Peak(), w.Device().Acts()}
}

// Fails wants that the call answers one of those errors, and that nothing is taken or granted
// but what was.
func (c Case) Fails(t T, w *file.Work, l []file.File, errors ...api.Errno) {
	t.Helper()
	was := stateOf(w)
	made, e := c.Call(w, l)
	is := stateOf(w)
	if !slices.Contains(errors, e) {
		t.Fatalf("of %v, %v: %v, error %d, not %v", c.Given, l, made, e, errors)
	}
	if slices.ContainsFunc(made, func(f file.File) bool { return f != file.File{} }) {
		t.Fatalf("of %v, %v: %v beside error %d", c.Given, l, made, e)
	}
	if !slices.Equal(is.free, was.free) || is.used != was.used || is.peak > w.Arena().Room() {
		t.Fatalf("of %v, %v: error %d: %v, not %v", c.Given, l, e, is, was)
	}
}

// Refused wants that the call answers e, and that nothing at all has changed.
func (c Case) Refused(t T, w *file.Work, l []file.File, e api.Errno) {
	t.Helper()
	was := stateOf(w)
	c.Fails(t, w, l, e)
	if is := stateOf(w); is.peak != was.peak || is.acts != was.acts {
		t.Fatalf("of %v, %v: error %d: %v, not %v", c.Given, l, e, is, was)
	}
}
