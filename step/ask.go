package step

import (
	"math"

	"abutment/api"
	"abutment/arena"
	"abutment/file"
	"abutment/space"
)

// leastBlocks is how many blocks' words have to be left in the arena: five, as much as a sort
// needs, and three more.
const leastBlocks = 8

// Given is a file that is handed in, and the width that it has to have.
type Given struct {
	File  file.File
	Width int
}

// Ask answers ErrArg, if one of the files hasn't its width, or can't be a file; ErrRoom, if too
// little is left in the arena; else OK. Nothing is read, and nothing granted.
func Ask(w *file.Work, l ...Given) api.Errno {
	for _, g := range l {
		if g.File.Width != g.Width || !canBe(w, g.File) {
			return api.ErrArg
		}
	}
	if w.Arena().Left() < leastBlocks*w.Device().Size() {
		return api.ErrRoom
	}
	return api.OK
}

// canBe tells whether f can be a file. Layer 10 itself is asked, but for an arena without
// room, so that nothing is granted.
func canBe(w *file.Work, f file.File) bool {
	_, e := file.New(w.Device(), arena.New(0), w.Space()).Read(f)
	return e != api.ErrArg
}

// Hold lets those blocks of the files be free no more that are, as what is made meanwhile would
// be written there. It answers what lets them be free again.
func Hold(w *file.Work, l ...file.File) func() {
	var held []space.Extent
	for _, f := range l {
		for _, x := range w.Space().Extents() {
			both := common(x, space.Extent{First: f.First, Blocks: f.Blocks})
			if both.Blocks > 0 && w.Space().Hold(both.First, both.Blocks) == api.OK {
				held = append(held, both)
			}
		}
	}
	return func() {
		for _, x := range held {
			w.Space().Give(x.First, x.Blocks)
		}
	}
}

// common answers the blocks that are of both, or none.
func common(a, b space.Extent) space.Extent {
	from, to := max(a.First, b.First), min(end(a), end(b))
	if from >= to {
		return space.Extent{}
	}
	return space.Extent{First: from, Blocks: to - from}
}

// end answers the block behind the last one of x, or the greatest int, if that is beyond it.
func end(x space.Extent) int {
	if x.First > math.MaxInt-x.Blocks {
		return math.MaxInt
	}
	return x.First + x.Blocks
}
