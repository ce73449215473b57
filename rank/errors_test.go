package rank

import (
	"math"
	"slices"
	"testing"

	"abutment/api"
)

// P14.1, R1 to R4: whatever is said of all calls that make files: which files are wrong, how
// much room is enough, too few blocks, and a fault, a power cut, and a block that isn't sealed
// at each place: of lists, and of tuples that aren't, so that all steps are done of them.
func TestErrors(t *testing.T) {
	for _, l := range [][]api.Tuple{
		nil,
		chain(0, 1),
		mixed(append(chain(0, 9), chain(20, 2)...)),
		mixed(append(chain(0, 5), ring(20, 3)...)),
		{{0, 1, 1}, {1, 2, 1}, {3, 2, 1}, {2, -1, 1}, {4, -1, 1}},
		{{0, 1, 1}, {1, 2, 1}, {2, -1, 1}, {1, -1, 1}},
		{{0, 1, 1}, {1, -1, 1}, {-1, 0, 1}},
	} {
		caseOf(l).Errors(t)
	}
}

// P14.1: in a long list one tuple that isn't right, wherever it stands in the list.
func TestOneWrong(t *testing.T) {
	const n = 23
	w := plenty(t, 8, 2*n)
	for at := range n {
		for _, x := range []struct {
			column int
			value  int64
		}{
			{0, -1}, {0, -2}, {0, math.MinInt64}, // no elements
			{1, -2}, {1, math.MinInt64}, {1, math.MaxInt64}, {1, element(n + 7)}, // aren't there
			{1, element(at)},            // itself behind it
			{0, element((at + 3) % n)},  // there twice
			{1, element((at + 5) % n)},  // behind two, or a circle
			{1, element((at + 20) % n)}, // likewise
			{1, element(50)},            // the first one of another list, behind which there may be one now
		} {
			l := append(chain(0, n), chain(50, 4)...)
			l[at][x.column] = x.value
			caseOf(mixed(l)).Holds(t, w)
			caseOf(l).Holds(t, w)
		}
	}
}

// P14.1: circles of all lengths, alone, beside shorter and longer lists, and beside others.
func TestCircles(t *testing.T) {
	for n := 1; n <= 20; n++ {
		w := plenty(t, 8, 150)
		unformed(t, w, mixed(ring(0, n)))
		unformed(t, w, mixed(append(ring(0, n), ring(50, 21-n)...)))
		for _, m := range []int{1, 2, 7, 16, 17, 33, 100} {
			unformed(t, w, mixed(append(ring(0, n), chain(50, m)...)))
		}
	}
}

// P14.1: tuples each of which could be a list's, written out: one element behind two, and one
// that isn't there; a circle beside a list; an element that is there twice, with the same one
// behind it, with none, or with one and with none.
func TestTogether(t *testing.T) {
	w := plenty(t, 8, 8)
	unformed(t, w, []api.Tuple{{0, 1, 1}, {1, -1, 1}, {2, 1, 1}, {3, 9, 1}, {4, -1, 1}})
	unformed(t, w, []api.Tuple{{0, 1, 1}, {1, 0, 1}, {2, -1, 1}})
	unformed(t, w, []api.Tuple{{0, 1, 1}, {0, 1, 1}, {1, -1, 1}})
	unformed(t, w, []api.Tuple{{0, 1, 1}, {1, -1, 1}, {1, -1, 1}})
	unformed(t, w, []api.Tuple{{0, 1, 1}, {0, -1, 1}, {1, -1, 1}})
}

// P14.1, R2: a tuple that is wrong by itself is told ahead of blocks that are lacking, and, as
// it is come to, of an error behind it.
func TestFormatFirst(t *testing.T) {
	l := chain(0, 12)
	for at := range l {
		for _, x := range []api.Tuple{{-1, -1, 0}, {5, -2, 0}} {
			l := slices.Clone(l)
			l[at] = x
			caseOf(l).AtOnce(t, at)
		}
	}
}
