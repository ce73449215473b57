package graph

import (
	"math"
	"slices"
	"testing"

	"abutment/api"
)

const most = api.MostVertex

// of makes a graph of n vertices; each two of ends are an edge.
func of(n int, ends ...int) api.Graph {
	g := api.Graph{N: n}
	for i := 0; i < len(ends); i += 2 {
		g.Edges = append(g.Edges, api.Edge{U: ends[i], V: ends[i+1]})
	}
	return g
}

// copied is g with edges of its own.
func copied(g api.Graph) api.Graph {
	return api.Graph{N: g.N, Edges: slices.Clone(g.Edges)}
}

// alike holds graphs against one another without the package's help.
func alike(a, b api.Graph) bool {
	if a.N != b.N || len(a.Edges) != len(b.Edges) {
		return false
	}
	for i := range a.Edges {
		if a.Edges[i].U != b.Edges[i].U || a.Edges[i].V != b.Edges[i].V {
			return false
		}
	}
	return true
}

// known are graphs that are formed, with what is to be answered of them, written out by hand.
var known = []struct {
	name    string
	g       api.Graph
	ordered bool
	order   api.Graph
	degrees []int
	loops   []int
}{
	{"the chapter's", of(3, 2, 0, 1, 1, 0, 1), false, of(3, 0, 1, 0, 2, 1, 1), []int{2, 3, 1}, []int{1}},
	{"its order", of(3, 0, 1, 0, 2, 1, 1), true, of(3, 0, 1, 0, 2, 1, 1), []int{2, 3, 1}, []int{2}},
	{"no vertices", of(0), true, of(0), nil, nil},
	{"an empty list", api.Graph{Edges: []api.Edge{}}, true, of(0), nil, nil},
	{"no edges", of(4), true, of(4), []int{0, 0, 0, 0}, nil},
	{"a vertex", of(1), true, of(1), []int{0}, nil},
	{"a loop", of(1, 0, 0), true, of(1, 0, 0), []int{2}, []int{0}},
	{"loops alone", of(2, 1, 1, 0, 0, 1, 1), false, of(2, 0, 0, 1, 1, 1, 1), []int{2, 4}, []int{0, 1, 2}},
	{"an edge", of(2, 0, 1), true, of(2, 0, 1), []int{1, 1}, nil},
	{"an edge turned", of(2, 1, 0), false, of(2, 0, 1), []int{1, 1}, nil},
	{"alike", of(2, 0, 1, 0, 1, 0, 1), true, of(2, 0, 1, 0, 1, 0, 1), []int{3, 3}, nil},
	{"alike, but turned", of(2, 0, 1, 1, 0), false, of(2, 0, 1, 0, 1), []int{2, 2}, nil},
	{"V falls", of(3, 0, 2, 0, 1), false, of(3, 0, 1, 0, 2), []int{2, 1, 1}, nil},
	{"U falls", of(3, 1, 1, 0, 2), false, of(3, 0, 2, 1, 1), []int{1, 2, 1}, []int{0}},
	{"U rises, V falls", of(4, 0, 3, 1, 2), true, of(4, 0, 3, 1, 2), []int{1, 1, 1, 1}, nil},
	{"the last turned", of(3, 0, 1, 0, 2, 2, 1), false, of(3, 0, 1, 0, 2, 1, 2), []int{2, 2, 2}, nil},
	{"a loop at last", of(3, 1, 0, 2, 1, 2, 2), false, of(3, 0, 1, 1, 2, 2, 2), []int{1, 2, 3}, []int{2}},
	{"numbers of two digits", of(12, 11, 2, 10, 9, 2, 10), false, of(12, 2, 10, 2, 11, 9, 10),
		[]int{0, 0, 2, 0, 0, 0, 0, 0, 0, 1, 2, 1}, nil},
}

// wrong are graphs that aren't formed.
var wrong = []struct {
	name string
	g    api.Graph
}{
	{"N below 0", of(-1)},
	{"N far below 0", of(math.MinInt)},
	{"N below 0, with an edge", of(-1, 0, 0)},
	{"N below 0, with an edge below", of(-1, -2, -2)},
	{"N above", of(most + 1)},
	{"N far above", of(math.MaxInt)},
	{"N above, with an edge", of(most+1, 0, 1)},
	{"an edge without vertices", of(0, 0, 0)},
	{"U at N", of(3, 3, 0)},
	{"V at N", of(3, 0, 3)},
	{"U above N", of(3, 4, 0)},
	{"V above N", of(3, 0, 4)},
	{"U far above", of(3, math.MaxInt, 0)},
	{"V far above", of(3, 0, math.MaxInt)},
	{"U below 0", of(3, -1, 0)},
	{"V below 0", of(3, 0, -1)},
	{"U far below", of(3, math.MinInt, 0)},
	{"V far below", of(3, 0, math.MinInt)},
	{"a loop at N", of(3, 3, 3)},
	{"a loop below 0", of(3, -1, -1)},
	{"the first", of(2, 2, 0, 0, 1, 0, 1)},
	{"the one between", of(2, 0, 1, 0, -1, 0, 1)},
	{"the last", of(2, 0, 1, 0, 1, 1, 2)},
	{"U at most vertices", of(most, most, 0)},
	{"V at most vertices", of(most, 0, most)},
}

// great are formed graphs of the most vertices, in order.
var great = []api.Graph{
	of(most),
	of(most, 0, most-1),
	of(most, 0, 0, 0, most-1, most-2, most-1, most-1, most-1),
}

// P3.1: Formed and Ordered of graphs that are formed, in order or not.
func TestFormedAndOrdered(t *testing.T) {
	for _, c := range known {
		if !Formed(c.g) {
			t.Errorf("%s: isn't formed", c.name)
		}
		if Ordered(c.g) != c.ordered {
			t.Errorf("%s: Ordered: %v", c.name, !c.ordered)
		}
	}
	for _, g := range great {
		if !Formed(g) || !Ordered(g) {
			t.Errorf("%v: formed %v, ordered %v", g, Formed(g), Ordered(g))
		}
	}
}

// P3.1: what isn't formed isn't ordered either.
func TestNotFormed(t *testing.T) {
	for _, c := range wrong {
		if Formed(c.g) {
			t.Errorf("%s: is formed", c.name)
		}
		if Ordered(c.g) {
			t.Errorf("%s: is ordered", c.name)
		}
	}
}

// P3.1: the same edges, each with its lesser end as U, in order.
func TestOrder(t *testing.T) {
	for _, c := range known {
		if g, e := Order(c.g); !alike(g, c.order) || e != api.OK {
			t.Errorf("%s: Order: %v %d", c.name, g, e)
		}
	}
	g, e := Order(of(most, most-1, most-1, most-1, 0, 0, most-2, most-2, most-1))
	if !alike(g, of(most, 0, most-2, 0, most-1, most-2, most-1, most-1, most-1)) || e != api.OK {
		t.Errorf("Order of ends that are great: %v %d", g, e)
	}
}

// P3.2: of each vertex its ends, a loop's two; and the loops' numbers, rising.
func TestDegreesAndLoops(t *testing.T) {
	for _, c := range known {
		if l, e := Degrees(c.g); !slices.Equal(l, c.degrees) || e != api.OK {
			t.Errorf("%s: Degrees: %v %d", c.name, l, e)
		}
		if l, e := Loops(c.g); !slices.Equal(l, c.loops) || e != api.OK {
			t.Errorf("%s: Loops: %v %d", c.name, l, e)
		}
	}
	if l, e := Loops(great[2]); !slices.Equal(l, []int{0, 3}) || e != api.OK {
		t.Errorf("Loops of %v: %v %d", great[2], l, e)
	}
}

// P3.1, P3.2, with R3: ErrArg of what isn't formed, and no other result.
func TestRefused(t *testing.T) {
	for _, c := range wrong {
		if g, e := Order(c.g); g.N != 0 || len(g.Edges) != 0 || e != api.ErrArg {
			t.Errorf("%s: Order: %v %d", c.name, g, e)
		}
		if l, e := Degrees(c.g); len(l) != 0 || e != api.ErrArg {
			t.Errorf("%s: Degrees: %v %d", c.name, l, e)
		}
		if l, e := Loops(c.g); len(l) != 0 || e != api.ErrArg {
			t.Errorf("%s: Loops: %v %d", c.name, l, e)
		}
	}
}

// P3.1: N and the edges, one by one, of whatever graphs.
func TestSame(t *testing.T) {
	l := []api.Graph{
		of(0), of(1), of(3), of(-1), of(most + 1),
		of(3, 0, 1), of(3, 1, 0), of(4, 0, 1), of(3, 0, 2), of(3, 1, 1), of(3, 0, 0), of(3, 0, 3), of(0, 0, 1),
		of(3, 0, 1, 0, 1), of(3, 0, 1, 0, 2), of(3, 0, 2, 0, 1), of(3, 0, 1, 2, 0), of(3, 0, 1, 0, 2, 0, 2),
	}
	for i, a := range l {
		for k, b := range l {
			if Same(a, copied(b)) != (i == k) {
				t.Errorf("Same(%v, %v): %v", a, b, i != k)
			}
		}
	}
	if !Same(of(2), api.Graph{N: 2, Edges: []api.Edge{}}) || !Same(api.Graph{N: 2, Edges: []api.Edge{}}, of(2)) {
		t.Error("a nil and an empty list of edges aren't the same")
	}
	for _, c := range wrong {
		if !Same(c.g, copied(c.g)) {
			t.Errorf("%s: isn't the same as itself", c.name)
		}
	}
}

// allSmall hands each graph of -1 to 3 vertices to f that has at most three edges, with ends
// from -1 to 3, and each formed one of 1 to 3 vertices that has at most four.
func allSmall(f func(g api.Graph)) {
	for n := -1; n <= 3; n++ {
		allEdges(n, -1, 3, 3, nil, f)
	}
	for n := 1; n <= 3; n++ {
		allEdges(n, 0, n-1, 4, nil, f)
	}
}

// allEdges hands each graph of n vertices to f that has the edges l and at most so many more
// behind them, with ends from least to greatest.
func allEdges(n, least, greatest, more int, l []api.Edge, f func(g api.Graph)) {
	f(api.Graph{N: n, Edges: slices.Clone(l)})
	if more == 0 {
		return
	}
	for u := least; u <= greatest; u++ {
		for v := least; v <= greatest; v++ {
			allEdges(n, least, greatest, more-1, append(slices.Clone(l), api.Edge{U: u, V: v}), f)
		}
	}
}

// plainFormed is Formed by the chapter's words: each end is one of the vertices, gone through.
func plainFormed(g api.Graph) bool {
	for _, x := range g.Edges {
		u, v := false, false
		for i := range max(g.N, 0) {
			u = u || x.U == i
			v = v || x.V == i
		}
		if !u || !v {
			return false
		}
	}
	return g.N >= 0
}

// plainOrder makes the edges in order anew, by counting how often each two vertices are joined.
func plainOrder(g api.Graph) api.Graph {
	count := map[[2]int]int{}
	for _, x := range g.Edges {
		count[[2]int{x.U, x.V}]++
	}
	o := api.Graph{N: g.N}
	for u := range g.N {
		for v := u; v < g.N; v++ {
			n := count[[2]int{u, v}]
			if u != v {
				n += count[[2]int{v, u}]
			}
			for range n {
				o.Edges = append(o.Edges, api.Edge{U: u, V: v})
			}
		}
	}
	return o
}

// plainDegrees asks each end of each edge whether it is the vertex.
func plainDegrees(g api.Graph) []int {
	var l []int
	for i := range g.N {
		n := 0
		for _, x := range g.Edges {
			for _, end := range [2]int{x.U, x.V} {
				if end == i {
					n++
				}
			}
		}
		l = append(l, n)
	}
	return l
}

// plainLoops goes through the numbers of edges from the last one on.
func plainLoops(g api.Graph) []int {
	var l []int
	for i := len(g.Edges) - 1; i >= 0; i-- {
		if g.Edges[i].U-g.Edges[i].V == 0 {
			l = slices.Insert(l, 0, i)
		}
	}
	return l
}

// check holds all that is answered of g against the plain ways.
func check(t *testing.T, g api.Graph) {
	want := plainFormed(g)
	if Formed(g) != want {
		t.Fatalf("%v: Formed: %v", g, !want)
	}
	o, oe := Order(g)
	d, de := Degrees(g)
	l, le := Loops(g)
	if !want {
		if Ordered(g) || oe != api.ErrArg || de != api.ErrArg || le != api.ErrArg ||
			o.N != 0 || len(o.Edges)+len(d)+len(l) != 0 {
			t.Fatalf("%v isn't formed: ordered %v; %v %d; %v %d; %v %d", g, Ordered(g), o, oe, d, de, l, le)
		}
		return
	}
	order := plainOrder(g)
	if Ordered(g) != alike(g, order) {
		t.Fatalf("%v: Ordered: %v", g, Ordered(g))
	}
	if !alike(o, order) || oe != api.OK {
		t.Fatalf("%v: Order: %v %d", g, o, oe)
	}
	if !slices.Equal(d, plainDegrees(g)) || de != api.OK {
		t.Fatalf("%v: Degrees: %v %d", g, d, de)
	}
	if !slices.Equal(l, plainLoops(g)) || le != api.OK {
		t.Fatalf("%v: Loops: %v %d", g, l, le)
	}
}

// P3.1, P3.2: all small graphs, formed or not.
func TestAllSmallGraphs(t *testing.T) {
	allSmall(func(g api.Graph) { check(t, g) })
}

// many are greater graphs, with edges in many orders, by a rule that repeats.
func many() []api.Graph {
	var l []api.Graph
	for _, n := range []int{1, 2, 5, 40, 97} {
		for _, m := range []int{1, 11, 12, 13, 50, 51, 400, 1500} {
			mixed, rising, equal := api.Graph{N: n}, api.Graph{N: n}, api.Graph{N: n}
			x := uint64(n*7919 + m)
			for i := range m {
				x = x*6364136223846793005 + 1442695040888963407
				mixed.Edges = append(mixed.Edges, api.Edge{U: int(x>>33) % n, V: int(x>>11%(1<<40)) % n})
				rising.Edges = append(rising.Edges, api.Edge{U: i * n / m, V: n - 1})
				equal.Edges = append(equal.Edges, api.Edge{U: n - 1, V: n / 2})
			}
			falling := copied(rising)
			slices.Reverse(falling.Edges)
			hill := copied(rising)
			hill.Edges = append(hill.Edges, falling.Edges...)
			l = append(l, mixed, rising, equal, falling, hill)
		}
	}
	return l
}

// P3.1, P3.2: greater graphs.
func TestManyGraphs(t *testing.T) {
	for _, g := range many() {
		check(t, g)
		if n := len(g.Edges); n > 1 {
			bad := copied(g)
			bad.Edges[n/2].V = g.N
			check(t, bad)
			bad = copied(g)
			bad.Edges[n-1].U = -1
			check(t, bad)
		}
	}
}

// P3.3: what is in order, and nothing else, is its own Order; and the Order is in order.
func TestOrderIsInOrder(t *testing.T) {
	f := func(g api.Graph) {
		o, e := Order(g)
		if e != api.OK {
			return
		}
		again, e := Order(o)
		if !Ordered(o) || !Same(o, again) || e != api.OK {
			t.Fatalf("%v: its Order %v, and that one's %v %d", g, o, again, e)
		}
		if Same(g, o) != Ordered(g) {
			t.Fatalf("%v: ordered %v, its Order %v", g, Ordered(g), o)
		}
	}
	allSmall(f)
	for _, g := range append(many(), great...) {
		f(g)
	}
}

// P3.3: the degrees sum up to twice the edges, and those of the Order are the same.
func TestDegreesSumUp(t *testing.T) {
	f := func(g api.Graph) {
		l, e := Degrees(g)
		if e != api.OK {
			return
		}
		sum := 0
		for _, n := range l {
			sum += n
		}
		if sum != 2*len(g.Edges) || len(l) != g.N {
			t.Fatalf("%v: Degrees: %v", g, l)
		}
		o, _ := Order(g)
		if again, _ := Degrees(o); !slices.Equal(l, again) {
			t.Fatalf("%v: Degrees: %v, of its Order: %v", g, l, again)
		}
	}
	allSmall(f)
	for _, g := range many() {
		f(g)
	}
}

// spared answers g with room behind its edges, and the whole of that memory.
func spared(g api.Graph) (api.Graph, []api.Edge) {
	n := len(g.Edges)
	whole := append(slices.Clone(g.Edges), api.Edge{U: 77, V: 5}, api.Edge{U: 1, V: 0}, api.Edge{U: -3, V: 9})
	return api.Graph{N: g.N, Edges: whole[:n]}, whole
}

// examples are the graphs of the tables known and wrong.
func examples() []api.Graph {
	var l []api.Graph
	for _, c := range known {
		l = append(l, copied(c.g))
	}
	for _, c := range wrong {
		l = append(l, copied(c.g))
	}
	return l
}

// R5, of all calls of P3.1 and P3.2: what is handed in is left as it is, its spare room too.
func TestArgumentsAreLeft(t *testing.T) {
	for _, c := range append(examples(), many()...) {
		g, whole := spared(c)
		before := slices.Clone(whole)
		Formed(g)
		Ordered(g)
		Same(g, g)
		Order(g)
		Loops(g)
		Degrees(g)
		if !slices.Equal(whole, before) {
			t.Fatalf("%v was changed to %v", before, whole)
		}
	}
}

// R5, of Order: what is answered is new memory, of a graph that is in order too, and isn't kept.
func TestOrderIsNewMemory(t *testing.T) {
	for _, c := range append(examples(), many()...) {
		g, whole := spared(c)
		before := slices.Clone(whole)
		first, e := Order(g)
		if e != api.OK {
			continue
		}
		want := copied(first)
		for i := range first.Edges {
			first.Edges[i] = api.Edge{U: 99, V: 98}
		}
		_ = append(first.Edges, api.Edge{U: 97, V: 96})
		if !slices.Equal(whole, before) {
			t.Fatalf("an Order shares memory with its graph: %v", before)
		}
		second, _ := Order(g)
		if !alike(second, want) {
			t.Fatalf("%v: its Order hangs on the answer ahead: %v", c, second)
		}
		for i := range whole {
			whole[i] = api.Edge{U: 95, V: 94}
		}
		if !alike(second, want) {
			t.Fatalf("%v: its Order changes with what was handed in: %v", c, second)
		}
	}
}

// R5, of Degrees and Loops: what is answered is new memory each time.
func TestListsAreNewMemory(t *testing.T) {
	calls := []func(api.Graph) ([]int, api.Errno){Degrees, Loops}
	for _, g := range many() {
		for i, call := range calls {
			first, _ := call(g)
			want := slices.Clone(first)
			for k := range first {
				first[k] = -7
			}
			_ = append(first, -7)
			second, e := call(g)
			if !slices.Equal(second, want) || e != api.OK {
				t.Fatalf("the call %d of %v: %v, then %v %d", i, g, want, second, e)
			}
		}
	}
}
