package format

import (
	"math"
	"runtime"
	"slices"
	"strings"
	"testing"

	"abutment/api"
	"abutment/graph"
)

const most = api.MostVertex

// of makes a graph of n vertices; each two of ends are an edge.
func of(n int, ends ...int) api.Graph {
	g := api.Graph{N: n}
	for i := 0; i < len(ends); i += 2 {
		g.Edges = append(g.Edges, api.Edge{U: ends[i], V: ends[i+1]})
	}
	return g
}

// alike makes a graph of n vertices and so many edges that are all alike.
func alike(n, u, v, edges int) api.Graph {
	return api.Graph{N: n, Edges: slices.Repeat([]api.Edge{{U: u, V: v}}, edges)}
}

// rep is the byte c so many times.
func rep(c byte, n int) string {
	return strings.Repeat(string([]byte{c}), n)
}

// known are graphs in order with their bytes, written out by hand from the chapter's words.
var known = []struct {
	g api.Graph
	b string
}{
	{of(2, 0, 1, 1, 1), "\x47\x02\x02\x01\x01\x01\x00"},
	{of(0), "\x47\x00\x00"},
	{of(1), "\x47\x01\x00\x00"},
	{of(1, 0, 0), "\x47\x01\x01\x01\x00"},
	{of(1, 0, 0, 0, 0, 0, 0), "\x47\x01\x03\x03\x00\x00\x00"},
	{of(2), "\x47\x02\x00\x00\x00"},
	{of(2, 0, 1), "\x47\x02\x01\x01\x01\x00"},
	{of(2, 1, 1), "\x47\x02\x01\x00\x01\x00"},
	{of(2, 0, 1, 0, 1), "\x47\x02\x02\x02\x01\x00\x00"},
	{of(3, 0, 1, 0, 2, 1, 1), "\x47\x03\x03\x02\x01\x01\x01\x00\x00"},
	{of(4, 0, 0, 0, 3, 2, 3), "\x47\x04\x03\x02\x00\x03\x00\x01\x01\x00"},
	{of(5, 1, 3, 1, 3, 1, 4, 4, 4), "\x47\x05\x04\x00\x03\x02\x00\x01\x00\x00\x01\x00"},
	{of(127), "\x47\x7f\x00" + rep(0, 127)},
	{of(128), "\x47\x80\x01\x00" + rep(0, 128)},
	{of(128, 0, 127), "\x47\x80\x01\x01\x01\x7f" + rep(0, 127)},
	{of(129, 0, 128), "\x47\x81\x01\x01\x01\x80\x01" + rep(0, 128)},
	{of(129, 1, 128), "\x47\x81\x01\x01\x00\x01\x7f" + rep(0, 127)},
	{of(300, 0, 299, 0, 299), "\x47\xac\x02\x02\x02\xab\x02\x00" + rep(0, 299)},
	{of(300, 0, 149, 0, 299), "\x47\xac\x02\x02\x02\x95\x01\x96\x01" + rep(0, 299)},
	{of(300, 299, 299), "\x47\xac\x02\x01" + rep(0, 299) + "\x01\x00"},
	{alike(1, 0, 0, 128), "\x47\x01\x80\x01\x80\x01" + rep(0, 128)},
	{alike(2, 0, 1, 130), "\x47\x02\x82\x01\x82\x01\x01" + rep(0, 129) + "\x00"},
	{alike(2, 1, 1, 130), "\x47\x02\x82\x01\x00\x82\x01" + rep(0, 130)},
}

// wrong are bytes that are no graph's, with the place of the first wrong one.
var wrong = []struct {
	name string
	b    string
	at   int
}{
	{"no bytes", "", 0},
	{"a first byte 0", "\x00", 0},
	{"one below the mark", "\x46\x00\x00", 0},
	{"one above the mark", "\x48\x00\x00", 0},
	{"128 above the mark", "\xc7\x00\x00", 0},
	{"the mark behind another byte", "\x00\x47\x00\x00", 0},
	{"the mark alone", "\x47", 1},
	{"vertices alone", "\x47\x02", 2},
	{"no counts", "\x47\x02\x02", 3},
	{"no edges alone, but vertices", "\x47\x02\x00", 3},

	{"vertices end too early", "\x47\x80", 2},
	{"vertices with a byte 0 at last", "\x47\x80\x00", 2},
	{"the most vertices, and an end", "\x47\x80\x80\x80\x80\x04", 6},
	{"the most vertices, an end behind the edges", "\x47\x80\x80\x80\x80\x04\x00", 7},
	{"the most vertices, an end behind counts", "\x47\x80\x80\x80\x80\x04\x00\x00\x00", 9},
	{"a vertex too many", "\x47\x81\x80\x80\x80\x04\x00\x00", 5},
	{"vertices 2^31", "\x47\x80\x80\x80\x80\x08\x00\x00", 5},
	{"vertices 2^32", "\x47\x80\x80\x80\x80\x10\x00\x00", 5},
	{"vertices 2^32 + 1", "\x47\x81\x80\x80\x80\x10\x00\x00", 5},
	{"vertices 2^63", "\x47" + rep(0x80, 9) + "\x01\x00\x00", 10},
	{"vertices 2^64 - 1", "\x47" + rep(0xff, 9) + "\x01\x00\x00", 10},
	{"vertices above 2^64", "\x47" + rep(0xff, 9) + "\x02\x00\x00", 10},
	{"too many vertices already, but an end", "\x47" + rep(0xff, 9), 10},
	{"too many vertices already, but a byte 0", "\x47" + rep(0xff, 6) + "\x00", 7},

	{"edges end too early", "\x47\x02\x80", 3},
	{"edges with a byte 0 at last", "\x47\x02\x81\x00", 3},
	{"the most edges, and an end", "\x47\x02\x80\x80\x80\x80\x04", 7},
	{"an edge too many", "\x47\x02\x81\x80\x80\x80\x04\x00", 6},
	{"edges 2^32", "\x47\x02\x80\x80\x80\x80\x10\x00\x00", 6},
	{"edges 2^63", "\x47\x02" + rep(0x80, 9) + "\x01\x00\x00", 11},
	{"edges 2^64 - 1", "\x47\x02" + rep(0xff, 9) + "\x01\x00\x00", 11},
	{"edges with a tenth byte 0", "\x47\x02" + rep(0xff, 9) + "\x00\x00\x00", 11},
	{"an edge without vertices", "\x47\x00\x01", 2},
	{"edges without vertices, of two bytes", "\x47\x00\x80\x01\x00", 3},
	{"edges without vertices, and an end", "\x47\x00\x80", 3},
	{"edges without vertices, and a byte 0", "\x47\x00\x80\x00", 3},
	{"the most edges without vertices", "\x47\x00\x80\x80\x80\x80\x04", 6},
	{"an edge too many without vertices", "\x47\x00\x81\x80\x80\x80\x04", 6},

	{"a first count above", "\x47\x02\x01\x02", 3},
	{"a first count above, without edges", "\x47\x02\x00\x01", 3},
	{"a count of two bytes above", "\x47\x02\x01\x80\x01", 4},
	{"one above a count of two bytes", "\x47\x02\x82\x01\x83\x01", 5},
	{"counts above together", "\x47\x03\x02\x01\x00\x02", 5},
	{"counts above together, without room", "\x47\x03\x01\x01\x00\x01", 5},
	{"a count 2^64 - 1", "\x47\x03\x01" + rep(0xff, 9) + "\x01", 12},
	{"a count 2^64 - 1 behind one", "\x47\x03\x01\x01\x00" + rep(0xff, 9) + "\x01", 14},
	{"a count 2^63", "\x47\x03\x01" + rep(0x80, 9) + "\x01", 12},
	{"a count 2^32", "\x47\x03\x01\x80\x80\x80\x80\x10", 7},
	{"a count 2^32 + 1", "\x47\x03\x01\x81\x80\x80\x80\x10", 7},
	{"a count ends too early", "\x47\x02\x02\x80", 4},
	{"a count with a byte 0 at last", "\x47\x02\x02\x81\x00", 4},
	{"a last count above", "\x47\x01\x00\x01", 3},
	{"a last count above one", "\x47\x01\x01\x02", 3},
	{"a last count below", "\x47\x01\x01\x00", 3},
	{"a last count below, behind others", "\x47\x02\x02\x01\x00\x00", 5},
	{"a last count of two bytes below", "\x47\x02\x82\x01\x00\x81\x01", 6},
	{"a last count of two bytes above", "\x47\x02\x82\x01\x00\x83\x01", 6},
	{"a last count of one byte below", "\x47\x02\x82\x01\x00\x7f", 5},
	{"a last count below, and an end", "\x47\x02\x82\x01\x00\x81", 6},
	{"all counts 0", "\x47\x03\x01\x00\x00\x00", 5},

	{"a difference above", "\x47\x02\x01\x01\x02\x00", 4},
	{"differences above together", "\x47\x02\x02\x02\x01\x01\x00", 5},
	{"a difference of the last vertex", "\x47\x02\x02\x01\x01\x01\x01", 6},
	{"a difference of the only vertex", "\x47\x01\x01\x01\x01", 4},
	{"a difference above, from a vertex between", "\x47\x03\x01\x00\x01\x02\x00", 5},
	{"a difference of two bytes above", "\x47\x02\x01\x01\x80\x01\x00", 5},
	{"one above a difference of two bytes", "\x47\x81\x01\x01\x01\x81\x01", 6},
	{"a difference 2^64 - 1", "\x47\x03\x01\x01" + rep(0xff, 9) + "\x01", 13},
	{"a difference 2^64 - 1 behind one", "\x47\x03\x02\x02\x01" + rep(0xff, 9) + "\x01", 14},
	{"a difference 2^63", "\x47\x03\x01\x01" + rep(0x80, 9) + "\x01", 13},
	{"a difference 2^32", "\x47\x03\x01\x01\x80\x80\x80\x80\x10", 8},
	{"a difference ends too early", "\x47\x03\x01\x01\x80", 5},
	{"a difference with a byte 0 at last", "\x47\x03\x01\x01\x81\x00", 5},
	{"a difference of a tenth byte 2", "\x47\x03\x01\x01" + rep(0x80, 9) + "\x02", 13},

	{"a byte behind no vertices", "\x47\x00\x00\x00", 3},
	{"a graph behind a graph", "\x47\x00\x00\x47\x00\x00", 3},
	{"a byte behind a vertex", "\x47\x01\x00\x00\x00", 4},
	{"a byte behind the chapter's", "\x47\x02\x02\x01\x01\x01\x00\x80", 7},
	{"bytes behind a loop", "\x47\x01\x01\x01\x00\xff\xff\xff", 5},
}

// P4.1: the bytes of a graph that is in order.
func TestEncodeOfKnownGraphs(t *testing.T) {
	for _, c := range known {
		if b, e := Encode(c.g); string(b) != c.b || e != api.OK {
			t.Errorf("Encode(%v): %x %d, not %x", c.g, b, e, c.b)
		}
	}
	if b, e := Encode(api.Graph{Edges: []api.Edge{}}); string(b) != "\x47\x00\x00" || e != api.OK {
		t.Errorf("Encode with an empty list: %x %d", b, e)
	}
}

// P4.1: of a graph that isn't in order, the bytes of its Order.
func TestEncodeOfOrder(t *testing.T) {
	for _, c := range []struct {
		g api.Graph
		b string
	}{
		{of(2, 1, 1, 1, 0), "\x47\x02\x02\x01\x01\x01\x00"},
		{of(2, 1, 0), "\x47\x02\x01\x01\x01\x00"},
		{of(3, 2, 0, 1, 1, 0, 1), "\x47\x03\x03\x02\x01\x01\x01\x00\x00"},
		{of(4, 3, 2, 3, 0, 0, 0), "\x47\x04\x03\x02\x00\x03\x00\x01\x01\x00"},
		{of(5, 4, 4, 3, 1, 4, 1, 1, 3), "\x47\x05\x04\x00\x03\x02\x00\x01\x00\x00\x01\x00"},
	} {
		if b, e := Encode(c.g); string(b) != c.b || e != api.OK {
			t.Errorf("Encode(%v): %x %d, not %x", c.g, b, e, c.b)
		}
	}
}

// P4.1, with R3: ErrArg of what isn't formed, and no bytes.
func TestEncodeRefuses(t *testing.T) {
	for _, g := range []api.Graph{
		of(-1), of(math.MinInt), of(-1, 0, 0), of(most + 1), of(math.MaxInt), of(most+1, 0, 1),
		of(0, 0, 0), of(1, 0, 1), of(1, 1, 0), of(3, 3, 3), of(3, -1, 0), of(3, 0, -1),
		of(3, 0, math.MaxInt), of(3, math.MinInt, 0), of(2, 0, 1, 0, 2), of(2, 2, 0, 0, 1),
	} {
		if b, e := Encode(g); len(b) != 0 || e != api.ErrArg {
			t.Errorf("Encode(%v): %x %d", g, b, e)
		}
	}
}

// P4.2: the graph in order whose bytes they are, and 0.
func TestDecodeOfKnownGraphs(t *testing.T) {
	for _, c := range known {
		if g, at, e := Decode([]byte(c.b)); !graph.Same(g, c.g) || at != 0 || e != api.OK {
			t.Errorf("Decode(%x): %v %d %d, not %v", c.b, g, at, e, c.g)
		}
	}
}

// P4.2, with R3: ErrFormat, no graph, and the place of the first wrong byte.
func TestDecodeOfWrongBytes(t *testing.T) {
	for _, c := range wrong {
		refuse(t, c.name, []byte(c.b), c.at)
	}
	refuse(t, "nil", nil, 0)
}

// refuse asks that Decode refuse b for the byte at at.
func refuse(t *testing.T, name string, b []byte, at int) {
	t.Helper()
	g, n, e := Decode(b)
	if g.N != 0 || len(g.Edges) != 0 || n != at || e != api.ErrFormat {
		t.Errorf("%s: Decode(%x): %v %d %d, not the place %d", name, b, g, n, e, at)
	}
}

// P4.2: what is wrong behind the first wrong byte is nothing to its place.
func TestDecodeTellsTheFirstWrongByte(t *testing.T) {
	for _, c := range wrong {
		if c.at == len(c.b) {
			continue
		}
		for _, behind := range []string{"", "\x00", "\x80", "\xff\xff", "\x47\x00\x00"} {
			refuse(t, c.name, []byte(c.b[:c.at+1]+behind), c.at)
		}
	}
}

// P4.2: bytes that end too early are wrong at their end, and a byte behind them all is.
func TestDecodeOfBeginningsAndMore(t *testing.T) {
	for _, c := range known {
		for n := range len(c.b) {
			refuse(t, "a beginning", []byte(c.b[:n]), n)
		}
		for more := range 256 {
			refuse(t, "a byte more", append([]byte(c.b), byte(more)), len(c.b))
		}
	}
}

// plainBytes writes a graph in order of less than 128 vertices and edges, a byte a number.
func plainBytes(g api.Graph) string {
	b := []byte{'G', byte(g.N), byte(len(g.Edges))}
	for u := range g.N {
		var steps []byte
		v := u
		for _, x := range g.Edges {
			if x.U == u {
				steps = append(steps, byte(x.V-v))
				v = x.V
			}
		}
		b = append(append(b, byte(len(steps))), steps...)
	}
	return string(b)
}

// allGraphs hands each graph in order of at most three vertices and three edges to f.
func allGraphs(f func(g api.Graph)) {
	for n := range 4 {
		allEdges(n, 0, 0, nil, f)
	}
}

// allEdges hands each graph of n vertices to f that has the edges l, and behind them such
// from u-v on, three in all at most.
func allEdges(n, u, v int, l []api.Edge, f func(g api.Graph)) {
	f(api.Graph{N: n, Edges: slices.Clone(l)})
	for ; u < n && len(l) < 3; u, v = u+1, u+1 {
		for ; v < n; v++ {
			allEdges(n, u, v, append(slices.Clone(l), api.Edge{U: u, V: v}), f)
		}
	}
}

// P4.2, P4.3: all strings of numbers to 3, held against all graphs of at most three vertices
// and three edges: the first wrong byte is that with which no graph's bytes go on.
func TestAllShortBytes(t *testing.T) {
	whole := map[string]api.Graph{}
	begins := map[string]int{}
	allGraphs(func(g api.Graph) {
		b := plainBytes(g)
		whole[b] = g
		for n := range len(b) + 1 {
			begins[b[:n]]++
		}
	})
	goods := 0
	var ask func(b string)
	ask = func(b string) {
		if want, ok := whole[b]; ok {
			goods++
			if g, at, e := Decode([]byte(b)); !graph.Same(g, want) || at != 0 || e != api.OK {
				t.Fatalf("Decode(%x): %v %d %d, not %v", b, g, at, e, want)
			}
		} else {
			at := 0
			for at < len(b) && begins[b[:at+1]] > 0 {
				at++
			}
			refuse(t, "a short text", []byte(b), at)
		}
		if len(b) < 10 && !t.Failed() {
			for c := range byte(4) {
				ask(b + string([]byte{c}))
			}
		}
	}
	ask("G")
	if goods != len(whole) {
		t.Errorf("%d of %d graphs were met", goods, len(whole))
	}
}

// many are greater graphs, with edges in many orders, by a rule that repeats.
func many() []api.Graph {
	l := []api.Graph{of(1 << 20), of(1<<20, 1<<20-1, 0), alike(1, 0, 0, 100000), alike(200, 199, 0, 20000)}
	x := uint32(1)
	next := func(n int) int {
		x = x*1664525 + 1013904223
		return int(x>>8) % n
	}
	for i := range 300 {
		g := api.Graph{N: 1 + next(1+i*i)}
		for range next(4 * (i + 1)) {
			g.Edges = append(g.Edges, api.Edge{U: next(g.N), V: next(g.N)})
		}
		l = append(l, g)
	}
	star := api.Graph{N: 70000}
	for v := range star.N {
		star.Edges = append(star.Edges, api.Edge{U: (v * 7919) % star.N, V: 3})
	}
	return append(l, star)
}

// P4.3: what is encoded is decoded as the graph in order, in whichever order it stood.
func TestEncodeThenDecode(t *testing.T) {
	check := func(g api.Graph) {
		b, e := Encode(g)
		if e != api.OK {
			t.Fatalf("Encode of %d vertices and %d edges: %d", g.N, len(g.Edges), e)
		}
		order, _ := graph.Order(g)
		if again, at, e := Decode(b); !graph.Same(again, order) || at != 0 || e != api.OK {
			t.Fatalf("%d vertices and %d edges, decoded: %d, %d, %d %d", g.N, len(g.Edges), again.N, len(again.Edges), at, e)
		}
	}
	allGraphs(check)
	allGraphs(func(g api.Graph) {
		for i := range g.Edges {
			g.Edges[i] = api.Edge{U: g.Edges[i].V, V: g.Edges[i].U}
		}
		slices.Reverse(g.Edges)
		check(g)
	})
	for _, g := range many() {
		check(g)
	}
}

// P4.3: in which order the edges stood, and which end was U, is nothing to the bytes.
func TestEncodeForgetsTheOrder(t *testing.T) {
	for _, g := range many() {
		a, _ := Encode(g)
		turned := api.Graph{N: g.N}
		for _, x := range slices.Backward(g.Edges) {
			turned.Edges = append(turned.Edges, api.Edge{U: x.V, V: x.U})
		}
		if b, e := Encode(turned); !slices.Equal(a, b) || e != api.OK {
			t.Fatalf("%d vertices and %d edges: other bytes, when turned: %d", g.N, len(g.Edges), e)
		}
	}
}

// judge is fed bytes one by one, and tells whether a graph's bytes may go on with each.
type judge struct {
	asked              int // 0: the mark, 1: vertices, 2: edges, 3: a count, 4: a difference, 5: nothing
	n, rest, u, v, own uint64
	x                  uint64 // the number so far, and how many bytes it has
	place              int
}

// feed tells whether a graph's bytes may go on with c.
func (j *judge) feed(c byte) bool {
	switch j.asked {
	case 0:
		j.asked = 1
		return c == 71
	case 5:
		return false
	}
	if j.place == 9 && c != 1 || j.place > 0 && c == 0 {
		return false
	}
	j.x += uint64(c&127) << (7 * j.place)
	j.place++
	if c > 127 {
		return true
	}
	x := j.x
	j.x, j.place = 0, 0
	return j.number(x)
}

// number tells whether x may stand where the judge is.
func (j *judge) number(x uint64) bool {
	switch j.asked {
	case 1:
		j.n, j.asked = x, 2
		return x <= 1<<30
	case 2:
		j.rest, j.asked = x, 3
		if j.n == 0 {
			j.asked = 5
		}
		return x <= 1<<30 && (x == 0 || j.n > 0)
	case 3:
		if x > j.rest || j.u == j.n-1 && x < j.rest {
			return false
		}
		j.rest -= x
		j.own, j.v, j.asked = x, j.u, 4
	case 4:
		if x >= j.n || j.v+x >= j.n {
			return false
		}
		j.v += x
		j.own--
	}
	if j.own == 0 {
		j.u, j.asked = j.u+1, 3
		if j.u == j.n {
			j.asked = 5
		}
	}
	return true
}

// hold holds Decode of b against a judge, and, if b is a graph's, Encode of it against b.
func hold(t *testing.T, b []byte) {
	t.Helper()
	var j judge
	for at, c := range b {
		if !j.feed(c) {
			refuse(t, "changed", b, at)
			return
		}
	}
	if j.asked != 5 {
		refuse(t, "changed", b, len(b))
		return
	}
	g, at, e := Decode(b)
	if !graph.Ordered(g) || at != 0 || e != api.OK {
		t.Errorf("Decode(%x): %v %d %d", b, g, at, e)
	}
	if again, e := Encode(g); !slices.Equal(again, b) || e != api.OK {
		t.Errorf("%x, decoded and encoded: %x %d", b, again, e)
	}
}

// P4.2, P4.3: bytes of graphs with each byte changed to each other, taken out, or put in.
func TestDecodeOfChangedBytes(t *testing.T) {
	var l []string
	for _, c := range known {
		l = append(l, c.b)
	}
	for _, c := range wrong {
		l = append(l, c.b)
	}
	for _, s := range l {
		hold(t, []byte(s))
		for i := range min(len(s), 16) {
			hold(t, []byte(s[:i]+s[i+1:]))
			for c := range 256 {
				one := string([]byte{byte(c)})
				hold(t, []byte(s[:i]+one+s[i+1:]))
				hold(t, []byte(s[:i]+one+s[i:]))
			}
		}
		if t.Failed() {
			return
		}
	}
}

// P4.2: numbers that speak of more than there are bytes for cost no memory.
func TestDecodeMakesNoRoomAhead(t *testing.T) {
	var ahead, behind runtime.MemStats
	runtime.ReadMemStats(&ahead)
	for range 100 {
		refuse(t, "much", []byte("\x47\x80\x80\x80\x80\x04\x80\x80\x80\x80\x04\x80\x80\x80\x80\x04"), 16)
		refuse(t, "much", []byte("\x47\x80\x80\x80\x80\x04\x80\x80\x80\x80\x04\x00\x00\x80\x80\x80\x80\x04\x01"), 19)
	}
	runtime.ReadMemStats(&behind)
	if n := behind.TotalAlloc - ahead.TotalAlloc; n > 1<<20 {
		t.Errorf("%d bytes of memory", n)
	}
}

// R5, of Encode: what is handed in is left as it is, its spare room too, and isn't kept; what
// is answered is new memory.
func TestEncodeIsNewMemory(t *testing.T) {
	for _, g := range append(many(), of(3, 2, 0, 1, 1, 0, 1)) {
		whole := append(slices.Clone(g.Edges), api.Edge{U: 77, V: 5}, api.Edge{U: 1, V: 0})
		before := slices.Clone(whole)
		g.Edges = whole[:len(g.Edges)]
		first, _ := Encode(g)
		want := slices.Clone(first)
		for i := range first {
			first[i] = 99
		}
		_ = append(first, 99)
		second, _ := Encode(g)
		if !slices.Equal(second, want) || !slices.Equal(whole, before) {
			t.Fatalf("%d vertices and %d edges: an answer is kept, or the argument changed", g.N, len(g.Edges))
		}
		for i := range whole {
			whole[i] = api.Edge{U: 95, V: 94}
		}
		if !slices.Equal(second, want) {
			t.Fatalf("%d vertices and %d edges: bytes change with the graph", g.N, len(g.Edges))
		}
	}
}

// R5, of Decode: likewise.
func TestDecodeIsNewMemory(t *testing.T) {
	for _, c := range known {
		whole := []byte(c.b + "\x47\x01\x02")
		b := whole[:len(c.b)]
		first, _, _ := Decode(b)
		for i := range first.Edges {
			first.Edges[i] = api.Edge{U: 95, V: 94}
		}
		_ = append(first.Edges, api.Edge{U: 93, V: 92})
		second, _, _ := Decode(b)
		if string(whole) != c.b+"\x47\x01\x02" {
			t.Fatalf("Decode changed %x to %x", c.b, whole)
		}
		for i := range whole {
			whole[i] = 0xff
		}
		if !graph.Same(second, c.g) {
			t.Fatalf("Decode(%x) hangs on an answer, or on its argument: %v", c.b, second)
		}
	}
	for _, c := range wrong {
		b := []byte(c.b)
		Decode(b)
		if string(b) != c.b {
			t.Errorf("Decode changed %x to %x", c.b, b)
		}
	}
}
