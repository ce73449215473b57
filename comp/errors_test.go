package comp

import (
	"math"
	"slices"
	"testing"

	"abutment/api"
	"abutment/file"
	"abutment/trial"
)

// P15.1, R1 to R4: whatever is said of all calls that make files: which files are wrong, how
// much room is enough, too few blocks, and a fault, a power cut, and a block that isn't sealed
// at each place: of edges by whose numbers all steps are done, in order and not, and of such as
// have one number twice.
func TestErrors(t *testing.T) {
	const n = 10
	for _, l := range [][]api.Tuple{
		nil,
		append(ring(8).numbered(ruled), api.Tuple{1 << 40, 3, 3}),
		append(mixed(tree(9).numbered(strewn)), api.Tuple{7, 8, 0}, api.Tuple{2, 2, 4}),
		{{5, 0, 1}, {3, 1, 2}, {5, 2, 3}},
		{{4, 0, 1}, {5, 0, 0}, {6, 1, n}},
	} {
		caseOf(n, l).Errors(t)
	}
}

// P15.1, R2: numbers of vertices that may not be. Nothing else is asked for ahead of them,
// neither room nor what the tuples are, nor blocks nor power.
func TestWrongNumber(t *testing.T) {
	wrong := []api.Tuple{{1, 1, 1}, {1, 1, 1}, {-1, -5, 0}}
	w := trial.Made(t, 8, 50, 64)
	l := failing(0, wrong, api.ErrArg).Lay(t, w)
	tries := func() {
		t.Helper()
		for _, n := range []int{-1, -2, math.MinInt, api.MostVertex + 1, 1 << 32, math.MaxInt} {
			failing(n, wrong, api.ErrArg).Refused(t, w, l, api.ErrArg)
			failing(n, nil, api.ErrArg).Refused(t, w, []file.File{{Width: 3}}, api.ErrArg)
		}
	}
	tries()
	w.Space().Take(w.Space().Free())
	w.Arena().Grant(64)
	w.Device().SetFuse(0)
	tries()
	w.Device().Sync()
	tries()
}

// P15.1: one tuple that isn't an edge, or has another's number, wherever it stands, among
// edges whose numbers rise, and others.
func TestOneWrong(t *testing.T) {
	const n = 14
	for _, number := range numberings() {
		w := plenty(t, 8, n, n)
		right := ring(n).numbered(number)
		for at := range right {
			for _, x := range []struct {
				column int
				value  int64
			}{
				{0, -1}, {0, -2}, {0, math.MinInt64}, {0, number((at + 1) % n)}, {0, number((at + n - 1) % n)}, {0, number((at + 6) % n)},
				{1, -1}, {1, n}, {1, n + 1}, {1, math.MinInt64}, {1, math.MaxInt64}, {1, 1 << 32},
				{2, -1}, {2, n}, {2, n + 1}, {2, math.MinInt64}, {2, math.MaxInt64}, {2, 1 << 32},
			} {
				l := slices.Clone(right)
				l[at][x.column] = x.value
				unformed(t, w, n, l)
				unformed(t, w, n, mixed(l))
			}
		}
	}
}

// P15.1, R2: what is wrong with a tuple by itself, and a number that is there twice, one
// right behind the other, is told ahead of blocks that are lacking, and, as it is come to, of
// an error behind it.
func TestFormatFirst(t *testing.T) {
	const n = 13
	right := path(n).numbered(rises)
	for at := range right {
		for _, x := range []api.Tuple{{-1, 0, 0}, {int64(at), -1, 0}, {int64(at), 0, n}, {int64(at - 1), 0, 0}} {
			l := slices.Clone(right)
			l[at] = x
			caseOf(n, l).AtOnce(t, at)
		}
	}
}

// P15.1: the most vertices that may be, the last one of them an end: blocks are lacking for so
// many, but no argument is wrong.
func TestMostVertices(t *testing.T) {
	w := trial.Made(t, 8, 200, 64)
	for _, n := range []int{api.MostVertex, 100*api.MostBlocks + 1, 100 * api.MostBlocks} {
		last := []api.Tuple{{0, int64(n - 1), 0}}
		failing(n, last, api.ErrFull).Holds(t, w)
		failing(n, nil, api.ErrFull).Holds(t, w)
		failing(n-1, last, api.ErrFormat).Holds(t, w)
	}
}
