package comp

import (
	"cmp"
	"math"
	"math/bits"
	"slices"
	"testing"

	"abutment/api"
	"abutment/file"
	"abutment/trial"
)

// plenty answers a work with more blocks than n vertices and so many edges need, and the least
// room.
func plenty(t *testing.T, size, n, edges int) *file.Work {
	t.Helper()
	return trial.Made(t, size, trial.BlocksOf(size, 2, n)+20*trial.BlocksOf(size, 3, edges)+20, 8*size)
}

// areEdges tells whether tuples are edges of n vertices, as the chapter has it.
func areEdges(n int, l []api.Tuple) bool {
	for i, t := range l {
		if t[0] < 0 || min(t[1], t[2]) < 0 || max(t[1], t[2]) >= int64(n) {
			return false
		}
		if slices.ContainsFunc(l[:i], func(o api.Tuple) bool { return o[0] == t[0] }) {
			return false
		}
	}
	return true
}

// wanted answers the labels and the forest: the edges are taken by their numbers, and those
// whose ends have the same label by then are left out.
func wanted(n int, l []api.Tuple) (labels, forest []api.Tuple) {
	l = slices.Clone(l)
	slices.SortFunc(l, func(a, b api.Tuple) int { return cmp.Compare(a[0], b[0]) })
	up := make([]int64, n)
	for v := range up {
		up[v] = int64(v)
	}
	top := func(v int64) int64 {
		for up[v] != v {
			v = up[v]
		}
		return v
	}
	for _, t := range l {
		a, b := top(t[1]), top(t[2])
		if a == b {
			continue
		}
		forest = append(forest, t)
		up[max(a, b)] = min(a, b)
	}
	for v := range int64(n) {
		labels = append(labels, api.Tuple{v, top(v)})
	}
	return labels, forest
}

// caseOf is the call of Components of those tuples, which are edges of n vertices, or else
// aren't formed.
func caseOf(n int, l []api.Tuple) trial.Case {
	if !areEdges(n, l) {
		return failing(n, l, api.ErrFormat)
	}
	c := failing(n, l, api.OK)
	labels, forest := wanted(n, l)
	c.Want = []trial.Table{{Width: 2, List: labels}, {Width: 3, List: forest}}
	return c
}

// failing is the call of Components of those tuples, of which the answer is that error.
func failing(n int, l []api.Tuple, e api.Errno) trial.Case {
	call := func(w *file.Work, l []file.File) ([]file.File, api.Errno) {
		labels, forest, e := Components(w, n, l[0])
		return []file.File{labels, forest}, e
	}
	return trial.Case{Given: []trial.Table{{Width: 3, List: l}}, Call: call, Err: e}
}

// spanned wants that Components makes of those edges the files that it has to.
func spanned(t *testing.T, w *file.Work, n int, l []api.Tuple) {
	t.Helper()
	c := caseOf(n, l)
	if c.Err != api.OK {
		t.Fatalf("%v aren't edges of %d vertices", l, n)
	}
	c.Holds(t, w)
}

// unformed wants that Components of those tuples is ErrFormat.
func unformed(t *testing.T, w *file.Work, n int, l []api.Tuple) {
	t.Helper()
	c := caseOf(n, l)
	if c.Err != api.ErrFormat {
		t.Fatalf("%v are edges of %d vertices", l, n)
	}
	c.Holds(t, w)
}

// value is the number i of some that lie all over the int64s.
func value(i int) int64 {
	return int64(i+1) * 0x5851f42d4c957f2d
}

// ends are pairs of vertices: edges without numbers.
type ends [][2]int

// numbered are the edges that have those ends, the edge i the number that number answers.
func (l ends) numbered(number func(i int) int64) []api.Tuple {
	var m []api.Tuple
	for i, x := range l {
		m = append(m, api.Tuple{number(i), int64(x[0]), int64(x[1])})
	}
	return m
}

// rises, falls, strewn, ruled and greatest are numbers of edges: in order, against it, all over
// the int64s, so that each vertex of a path grows together with just one other at a time, and
// the greatest ones.
func rises(i int) int64    { return int64(i) }
func falls(i int) int64    { return 5000 - int64(i) }
func strewn(i int) int64   { return value(i) & math.MaxInt64 }
func ruled(i int) int64    { return int64(bits.TrailingZeros(uint(i+1)))<<20 + int64(i) }
func greatest(i int) int64 { return math.MaxInt64 - int64(i) }

// numberings are all of them.
func numberings() []func(i int) int64 {
	return []func(i int) int64{rises, falls, strewn, ruled, greatest}
}

// path goes through n vertices, star from the last of n to all others, ring around n, tree from
// each of n to two others, and all joins each two of n, also to themselves.
func path(n int) ends {
	var l ends
	for v := 1; v < n; v++ {
		l = append(l, [2]int{v - 1, v})
	}
	return l
}

func star(n int) ends {
	var l ends
	for v := range n - 1 {
		l = append(l, [2]int{n - 1, v})
	}
	return l
}

func ring(n int) ends {
	return append(path(n), [2]int{n - 1, 0})
}

func tree(n int) ends {
	var l ends
	for v := 1; v < n; v++ {
		l = append(l, [2]int{v, (v - 1) / 2})
	}
	return l
}

func all(n int) ends {
	var l ends
	for u := range n {
		for v := range n {
			l = append(l, [2]int{u, v})
		}
	}
	return l
}

// strewnEnds are m pairs of n vertices.
func strewnEnds(n, m int) ends {
	var l ends
	for i := range m {
		x := uint64(value(i + 7))
		l = append(l, [2]int{int(x >> 40 % uint64(n)), int(x >> 13 % uint64(n))})
	}
	return l
}

// mixed are the tuples of l in another order.
func mixed(l []api.Tuple) []api.Tuple {
	m := slices.Clone(l)
	slices.SortStableFunc(m, func(a, b api.Tuple) int {
		return cmp.Compare(a[0]*0x5851f42d4c957f2d>>9, b[0]*0x5851f42d4c957f2d>>9)
	})
	return m
}

// P15.1: the chapter's example.
func TestExample(t *testing.T) {
	c := caseOf(4, []api.Tuple{{0, 2, 1}, {1, 1, 2}, {2, 3, 3}})
	c.Want[0].List = []api.Tuple{{0, 0}, {1, 1}, {2, 1}, {3, 3}}
	c.Want[1].List = []api.Tuple{{0, 2, 1}}
	c.Holds(t, c.Plenty(t, 8))
}

// P15.1: two components, written out, by edges whose numbers don't rise.
func TestTwo(t *testing.T) {
	c := caseOf(7, []api.Tuple{{7, 5, 2}, {9, 2, 6}, {3, 6, 5}, {20, 1, 4}, {0, 4, 4}, {8, 4, 1}})
	c.Want[0].List = []api.Tuple{{0, 0}, {1, 1}, {2, 2}, {3, 3}, {4, 1}, {5, 2}, {6, 2}}
	c.Want[1].List = []api.Tuple{{3, 6, 5}, {7, 5, 2}, {8, 4, 1}}
	c.Holds(t, c.Plenty(t, 9))
}

// P15.1: no vertices, and vertices without edges, at the edges of blocks.
func TestNoEdges(t *testing.T) {
	w := trial.Made(t, 8, 0, 64)
	w.Device().SetFuse(0)
	labels, forest, e := Components(w, 0, file.File{Width: 3})
	if e != api.OK || labels != (file.File{Width: 2}) || forest != (file.File{Width: 3}) {
		t.Fatalf("Components: %v, %v, error %d", labels, forest, e)
	}
	for n := range 40 {
		spanned(t, plenty(t, 8, n, 0), n, nil)
	}
	spanned(t, plenty(t, 256, 100000, 0), 100000, nil)
}

// P15.1, P15.2: all files of up to three edges of three vertices, and of tuples that are none,
// in each order.
func TestAll(t *testing.T) {
	w := plenty(t, 8, 3, 3)
	for _, numbers := range [][]int64{{0, 1, 2}, {0, 2, 1}, {1, 0, 2}, {2, 0, 1}, {1, 2, 0}, {2, 1, 0}, {4, 4, 7}, {4, 7, 4}, {7, 4, 4}, {0, -1, 2}} {
		for n := range 4 {
			tuplesOf(numbers, func(l []api.Tuple) {
				caseOf(n, l).Holds(t, w)
			})
		}
	}
}

// tuplesOf calls try with all tuples that have the first of those numbers, and ends up to 2.
func tuplesOf(numbers []int64, try func(l []api.Tuple)) {
	var grow func(l []api.Tuple)
	grow = func(l []api.Tuple) {
		try(l)
		if len(l) == len(numbers) {
			return
		}
		for x := range int64(9) {
			grow(append(l, api.Tuple{numbers[len(l)], x / 3, x % 3}))
		}
	}
	grow(nil)
}

// P15.1, P15.2: all orders of the numbers of the edges of some graphs, and all orders in which
// they stand.
func TestOrders(t *testing.T) {
	w := plenty(t, 8, 7, 6)
	for _, l := range []ends{path(7), ring(6), all(4)[1:7], {{0, 1}, {1, 2}, {2, 0}, {3, 4}, {4, 5}, {5, 3}}, {{1, 2}, {2, 1}, {1, 2}, {2, 3}, {3, 2}, {3, 3}}} {
		orders(6, func(p []int) {
			edges := l.numbered(func(i int) int64 { return int64(p[i]) })
			spanned(t, w, 7, edges)
			slices.SortFunc(edges, func(a, b api.Tuple) int { return cmp.Compare(a[0], b[0]) })
			spanned(t, w, 7, edges)
		})
	}
}

// orders calls try with all orders of the numbers below n.
func orders(n int, try func(p []int)) {
	var grow func(p []int)
	grow = func(p []int) {
		if len(p) == n {
			try(p)
		}
		for i := range n {
			if !slices.Contains(p, i) {
				grow(append(slices.Clone(p), i))
			}
		}
	}
	grow(nil)
}

// P15.1, P15.2: graphs of many shapes, numbered in many ways, in order and mixed, on blocks of
// many sizes, in the least room and in more.
func TestShapes(t *testing.T) {
	const n = 70
	shapes := []ends{path(n), star(n), ring(n), tree(n), all(12), strewnEnds(n, n/2), strewnEnds(n, n), strewnEnds(n, 3*n), append(ring(n/2), ring(n)...)}
	for _, size := range []int{api.LeastBlock, 12, api.MostBlock} {
		for _, room := range []int{8 * size, 30 * size} {
			for _, l := range shapes {
				for _, number := range numberings() {
					edges := l.numbered(number)
					w := trial.Made(t, size, trial.BlocksOf(size, 2, n)+20*trial.BlocksOf(size, 3, len(l))+20, room)
					spanned(t, w, n, edges)
					spanned(t, w, n, mixed(edges))
				}
			}
		}
	}
}

// P15.1, P15.2: paths and circles of each length, at the edges of blocks and of powers of two.
func TestLengths(t *testing.T) {
	for n := 1; n <= 34; n++ {
		for _, number := range numberings() {
			w := plenty(t, 8, n, n)
			spanned(t, w, n, path(n).numbered(number))
			spanned(t, w, n, mixed(ring(n).numbered(number)))
		}
	}
}

// P15.1: components beside one another, far from one another, and vertices without edges
// ahead of, between and behind them.
func TestFarAway(t *testing.T) {
	const n = 900
	var l ends
	for i := range 30 {
		for _, x := range path(i % 5) {
			l = append(l, [2]int{n - 2 - 29*i - x[1]*x[1], n - 2 - 29*i - x[0]*x[0]})
		}
	}
	for _, number := range numberings() {
		spanned(t, plenty(t, 8, n, len(l)), n, mixed(l.numbered(number)))
	}
	spanned(t, plenty(t, 8, n, 3), n, ends{{n - 1, 0}, {0, n - 1}, {n - 1, n - 1}}.numbered(rises))
}

// P15.1: many edges with the same ends, and many loops.
func TestAlike(t *testing.T) {
	var l ends
	for i := range 200 {
		l = append(l, [2]int{i % 3, (i + i%2) % 3}, [2]int{7, 7})
	}
	for _, number := range numberings() {
		spanned(t, plenty(t, 8, 9, len(l)), 9, mixed(l.numbered(number)))
	}
	spanned(t, plenty(t, 8, 9, 40), 9, ends(slices.Repeat(ends{{8, 8}}, 40)).numbered(rises))
}

// P15.2: the forest has as many edges as there are vertices that aren't their own labels, and
// of it alone Components makes the same.
func TestForestAlone(t *testing.T) {
	const n = 60
	for m := range 100 {
		labels, forest := wanted(n, strewnEnds(n, m).numbered(strewn))
		c := caseOf(n, mixed(forest))
		c.Want = []trial.Table{{Width: 2, List: labels}, {Width: 3, List: forest}}
		c.Holds(t, c.Plenty(t, 8))
		others := slices.DeleteFunc(labels, func(x api.Tuple) bool { return x[0] == x[1] })
		if len(others) != len(forest) {
			t.Fatalf("%d edges: %v, %v", m, labels, forest)
		}
	}
}

// acts answers how many acts Components does of those edges, on the least blocks, in the least
// room a run may have.
func acts(t *testing.T, n int, l []api.Tuple) int {
	t.Helper()
	w := trial.Made(t, 8, 20*(n+len(l)), 16*8)
	f := caseOf(n, l).Lay(t, w)[0]
	was := w.Device().Acts()
	if _, _, e := Components(w, n, f); e != api.OK {
		t.Fatalf("%d vertices: error %d", n, e)
	}
	return w.Device().Acts() - was
}

// P15.1, P3: the acts of long paths, numbered in each way, are far fewer than a run may do, and
// fewer where the numbers rise.
func TestActs(t *testing.T) {
	for _, n := range []int{100, 2000} {
		for _, number := range numberings() {
			if x := acts(t, n, mixed(path(n).numbered(number))); x > 40*n*halvings(n) {
				t.Errorf("%d vertices: %d acts", n, x)
			}
		}
		l := path(n).numbered(rises)
		if x, y := acts(t, n, l), acts(t, n, mixed(l)); x >= y {
			t.Errorf("%d vertices: %d acts, and %d of mixed edges", n, x, y)
		}
	}
}

// P15.1, P3: where all vertices are joined, and each grows together with just one other at a
// time, the edges get fewer much faster than the vertices.
func TestDense(t *testing.T) {
	const n = 64
	l := all(n)
	edges := l.numbered(func(i int) int64 { return int64(bits.Len(uint(l[i][0]^l[i][1])))<<20 + int64(i) })
	spanned(t, plenty(t, 8, n, len(edges)), n, edges)
	if x := acts(t, n, edges); x > 40*len(edges) {
		t.Errorf("%d edges: %d acts", len(edges), x)
	}
}

// halvings is how often n can be halved, rounded up, till it is 1.
func halvings(n int) int {
	h := 0
	for ; n > 1; n = (n + 1) / 2 {
		h++
	}
	return h
}
