package cycle

import (
	"math"
	"slices"
	"testing"

	"tenon/api"
	"tenon/heap"
)

const top = math.MaxUint32

func graph(counts []uint32, edges ...[]int) api.Graph {
	return api.Graph{Counts: counts, Edges: edges}
}

// garbage: Garbage and a run by single units come to want, and so does the plain search.
func garbage(t *testing.T, g api.Graph, suspects []int, want ...int) {
	t.Helper()
	if l := Garbage(g, suspects); !slices.Equal(l, want) {
		t.Fatalf("Garbage(%v, %v) = %v, not %v", g, suspects, l, want)
	}
	if l := plain(g, suspects); !slices.Equal(l, want) {
		t.Fatalf("%v, %v: the plain search finds %v, not %v", g, suspects, l, want)
	}
	r := begun(t, g, suspects)
	byUnits(t, r, Bound(g))
	if l := r.Garbage(); !slices.Equal(l, want) {
		t.Fatalf("%v, %v: by single units %v, not %v", g, suspects, l, want)
	}
}

func begun(t *testing.T, g api.Graph, suspects []int) *Run {
	t.Helper()
	r := Begin(g, suspects)
	if r == nil {
		t.Fatal("Begin answers nil")
	}
	nothing(t, r)
	return r
}

func nothing(t *testing.T, r *Run) {
	t.Helper()
	if l := r.Garbage(); len(l) != 0 {
		t.Fatalf("a run that isn't over tells %v", l)
	}
}

// byUnits ends a run one unit at a time and tells how many there were.
func byUnits(t *testing.T, r *Run, most int) int {
	t.Helper()
	for n := range most + 1 {
		if r.Step(0) {
			return n
		}
		nothing(t, r)
		r.Step(1)
	}
	t.Fatalf("more than %d units", most)
	return 0
}

// plain goes by the chapter's words alone.
func plain(g api.Graph, suspects []int) []int {
	reach := closure(g, suspects)
	inner := edgesTo(g, reach)
	var held []int
	for i := range g.Counts {
		if reach[i] && uint64(g.Counts[i]) > inner[i] {
			held = append(held, i)
		}
	}
	lives := closure(g, held)
	var l []int
	for i := range g.Counts {
		if reach[i] && !lives[i] {
			l = append(l, i)
		}
	}
	return l
}

func edgesOf(g api.Graph, i int) []int {
	var l []int
	if i >= len(g.Edges) {
		return nil
	}
	for _, to := range g.Edges[i] {
		if to >= 0 && to < len(g.Counts) {
			l = append(l, to)
		}
	}
	return l
}

// closure: those of from that are nodes, and all that they come to.
func closure(g api.Graph, from []int) []bool {
	in := make([]bool, len(g.Counts))
	for _, i := range from {
		if i >= 0 && i < len(in) {
			in[i] = true
		}
	}
	for more := true; more; {
		more = false
		for i := range in {
			for _, to := range edgesOf(g, i) {
				if in[i] && !in[to] {
					in[to], more = true, true
				}
			}
		}
	}
	return in
}

// edgesTo: how many edges the nodes of from have to each node.
func edgesTo(g api.Graph, from []bool) []uint64 {
	n := make([]uint64, len(g.Counts))
	for i := range g.Counts {
		for _, to := range edgesOf(g, i) {
			if from[i] {
				n[to]++
			}
		}
	}
	return n
}

func all(n int) []int {
	var l []int
	for i := range n {
		l = append(l, i)
	}
	return l
}

type dice struct{ seed uint32 }

func (d *dice) below(n int) int {
	d.seed = d.seed*1664525 + 1013904223
	return int(d.seed>>16) % n
}

func (d *dice) row(length, least, above int) []int {
	var l []int
	for range length {
		l = append(l, least+d.below(above-least))
	}
	return l
}

// graph has lists that are missing, lists behind, and elements that are no nodes.
func (d *dice) graph() api.Graph {
	var g api.Graph
	n := d.below(9)
	for range n {
		g.Counts = append(g.Counts, uint32(d.below(5)))
	}
	for range d.below(n + 3) {
		g.Edges = append(g.Edges, d.row(d.below(4), -1, n+2))
	}
	return g
}

// counted: each count is the number of edges to its node, and of some nodes one more.
func (d *dice) counted(nodes int) api.Graph {
	g := api.Graph{Counts: make([]uint32, nodes)}
	for range nodes {
		g.Edges = append(g.Edges, d.row(d.below(3), 0, nodes))
	}
	for i, n := range edgesTo(g, closure(g, all(nodes))) {
		g.Counts[i] = uint32(n)
		if d.below(4) == 0 {
			g.Counts[i]++
		}
	}
	return g
}

// P13.1

func TestTheExamples(t *testing.T) {
	garbage(t, graph([]uint32{1, 1}, []int{1}, []int{0}), []int{0}, 0, 1)
	garbage(t, graph([]uint32{1, 1}, []int{1}, []int{0}), []int{1}, 0, 1)
	garbage(t, graph([]uint32{2, 1}, []int{1}, []int{0}), []int{0})
	garbage(t, graph([]uint32{2, 1}, []int{1}, []int{0}), []int{1})
}

func TestNoNodes(t *testing.T) {
	for _, suspects := range [][]int{nil, {}, {0}, {-1, 0, 1}} {
		garbage(t, api.Graph{}, suspects)
		garbage(t, graph([]uint32{}), suspects)
		garbage(t, graph(nil, []int{0, 1}, []int{0}), suspects)
	}
}

func TestNoSuspects(t *testing.T) {
	g := graph([]uint32{1, 1, 0}, []int{1}, []int{0})
	garbage(t, g, nil)
	garbage(t, g, []int{})
}

func TestWhatIsNoNodeIsNoSuspect(t *testing.T) {
	g := graph([]uint32{1, 1, 0}, []int{1}, []int{0})
	garbage(t, g, []int{-1, 3, 4, math.MaxInt, math.MinInt, 1 << 32, -(1 << 32)})
	garbage(t, g, []int{-1, 1, 3}, 0, 1)
	garbage(t, g, []int{math.MinInt, 2, math.MaxInt}, 2)
}

func TestASuspectThatIsNamedOften(t *testing.T) {
	g := graph([]uint32{1, 1, 2}, []int{1}, []int{0}, []int{2})
	garbage(t, g, []int{1, 1, 0, 1, 2, 2, 2, 0}, 0, 1)
}

func TestANodeAlone(t *testing.T) {
	garbage(t, graph([]uint32{0}), []int{0}, 0)
	garbage(t, graph([]uint32{1}), []int{0})
	garbage(t, graph([]uint32{top}), []int{0})
	garbage(t, graph([]uint32{1}, []int{0}), []int{0}, 0)
	garbage(t, graph([]uint32{2}, []int{0}), []int{0})
	garbage(t, graph([]uint32{0}, []int{0}), []int{0}, 0)
}

// Each element of a list is an edge, though another one goes to the same node.
func TestEdgesOfOnePair(t *testing.T) {
	garbage(t, graph([]uint32{3, 2}, []int{1, 1}, []int{0, 0, 0}), []int{0}, 0, 1)
	garbage(t, graph([]uint32{3, 3}, []int{1, 1}, []int{0, 0, 0}), []int{0})
	garbage(t, graph([]uint32{4, 2}, []int{1, 1}, []int{0, 0, 0}), []int{0})
	garbage(t, graph([]uint32{2}, []int{0, 0}), []int{0}, 0)
	garbage(t, graph([]uint32{3}, []int{0, 0}), []int{0})
}

// A count that is below the number of edges holds nothing, just as one that is that number.
func TestCountsBelowTheEdges(t *testing.T) {
	garbage(t, graph([]uint32{0, 0}, []int{1, 1}, []int{0}), []int{0}, 0, 1)
	garbage(t, graph([]uint32{0, 1}, []int{1, 1, 1}, []int{0, 0}), []int{1}, 0, 1)
	garbage(t, graph([]uint32{0, 2}, []int{1}, []int{0}), []int{0})
}

func TestTheGreatestCount(t *testing.T) {
	garbage(t, graph([]uint32{top, 1}, []int{1}, []int{0}), []int{1})
	garbage(t, graph([]uint32{1, top}, []int{1}, []int{0}), []int{0})
	garbage(t, graph([]uint32{1 << 31, 0}, []int{1}, []int{0}), []int{0})
	garbage(t, graph([]uint32{0, 1, top}, []int{1}, []int{2}), []int{0}, 0, 1)
}

func TestNodesWithoutLists(t *testing.T) {
	garbage(t, graph([]uint32{1, 1, 1}, []int{1, 2}), []int{0})
	garbage(t, graph([]uint32{0, 1, 1}, []int{1, 2}), []int{0}, 0, 1, 2)
	garbage(t, graph([]uint32{0, 1, 1}), []int{0, 1, 2}, 0)
	garbage(t, graph([]uint32{1, 1, 0}, nil, []int{}), []int{2, 0}, 2)
}

// Lists behind the nodes are none's: they hold nothing, and nobody is come to by them.
func TestListsBehind(t *testing.T) {
	garbage(t, graph([]uint32{1, 1}, []int{}, []int{}, []int{0, 1}), []int{0, 1, 2})
	garbage(t, graph([]uint32{1, 1}, []int{1}, []int{0}, []int{0, 1}, []int{2}), []int{0}, 0, 1)
	garbage(t, graph([]uint32{0, 1}, []int{2}, nil, []int{1}), []int{0, 1, 2}, 0)
}

func TestElementsThatAreNoNodes(t *testing.T) {
	wrong := []int{-1, 2, 3, math.MaxInt, math.MinInt, 1 << 32, 1<<32 + 1}
	garbage(t, graph([]uint32{1, 1}, wrong, wrong), []int{0, 1})
	garbage(t, graph([]uint32{0, 0}, wrong, wrong), []int{1}, 1)
	garbage(t, graph([]uint32{1, 1}, append(slices.Clone(wrong), 1), append([]int{0}, wrong...)), []int{0}, 0, 1)
}

// Who isn't of the reach holds from outside, whether somebody holds it or not.
func TestWhoIsNotOfTheReachHolds(t *testing.T) {
	g := graph([]uint32{0, 1, 1}, []int{1}, []int{2}, nil)
	garbage(t, g, []int{2})
	garbage(t, g, []int{1})
	garbage(t, g, []int{0}, 0, 1, 2)
	g = graph([]uint32{1, 2, 1}, []int{0, 1}, []int{2}, []int{1})
	garbage(t, g, []int{1})
	garbage(t, g, []int{0}, 0, 1, 2)
}

// What isn't come to isn't told, be it garbage or not.
func TestTheReachAlone(t *testing.T) {
	g := graph([]uint32{1, 1, 1, 1, 0}, []int{1}, []int{0}, []int{3}, []int{2})
	garbage(t, g, []int{0}, 0, 1)
	garbage(t, g, []int{3}, 2, 3)
	garbage(t, g, []int{4}, 4)
	garbage(t, g, []int{4, 1}, 0, 1, 4)
	garbage(t, g, []int{4, 3, 2, 1, 0}, 0, 1, 2, 3, 4)
}

func TestWhatLivesKeepsWhatItComesTo(t *testing.T) {
	// A row of rings of two, each of which holds the next one.
	g := graph([]uint32{1, 1, 2, 1, 2, 1}, []int{1, 2}, []int{0}, []int{3, 4}, []int{2}, []int{5}, []int{4})
	garbage(t, g, all(6), 0, 1, 2, 3, 4, 5)
	g.Counts[5]++
	garbage(t, g, all(6), 0, 1, 2, 3)
	g.Counts[5]--
	g.Counts[3]++
	garbage(t, g, all(6), 0, 1)
	garbage(t, g, []int{4})
	g.Counts[3]--
	g.Counts[0]++
	garbage(t, g, all(6))
}

// A node that was come to early may live by one that is come to late.
func TestWhatLivesIsFoundLate(t *testing.T) {
	n := 50
	g := api.Graph{Counts: make([]uint32, n)}
	for i := range n {
		g.Counts[i] = 1
		g.Edges = append(g.Edges, []int{(i + 1) % n})
	}
	for i := range n {
		garbage(t, g, []int{i}, all(n)...)
		g.Counts[i]++
		garbage(t, g, []int{0})
		garbage(t, g, all(n))
		g.Counts[i]--
	}
}

func TestRowsThatHoldOneAnother(t *testing.T) {
	// Not a ring: what is held by garbage alone is garbage, too.
	garbage(t, graph([]uint32{0, 1, 1, 1}, []int{1}, []int{2}, []int{3}), []int{0}, 0, 1, 2, 3)
	garbage(t, graph([]uint32{0, 1, 2, 1}, []int{1}, []int{2}, []int{3}), []int{0}, 0, 1)
	garbage(t, graph([]uint32{0, 1, 1, 1}, []int{1}, []int{2}, []int{3}), []int{1})
}

func TestAllSmallGraphs(t *testing.T) {
	for n := 1; n <= 3; n++ {
		most := []int{0, 4, 3, 2}[n] // each pair has fewer edges than that
		for edges := range power(most, n*n) {
			g := api.Graph{Edges: make([][]int, n)}
			for pair := range n * n {
				for range edges / power(most, pair) % most {
					g.Edges[pair/n] = append(g.Edges[pair/n], pair%n)
				}
			}
			countsOf(t, g, n)
		}
	}
}

func power(n, by int) int {
	x := 1
	for range by {
		x *= n
	}
	return x
}

func countsOf(t *testing.T, g api.Graph, n int) {
	t.Helper()
	for counts := range power(4, n) {
		g.Counts = nil
		for i := range n {
			g.Counts = append(g.Counts, uint32(counts/power(4, i)%4))
		}
		for some := range power(2, n) {
			var suspects []int
			for i := range n {
				if some/power(2, i)%2 == 1 {
					suspects = append(suspects, i)
				}
			}
			if l, want := Garbage(g, suspects), plain(g, suspects); !slices.Equal(l, want) {
				t.Fatalf("Garbage(%v, %v) = %v, not %v", g, suspects, l, want)
			}
		}
	}
}

func TestAnyGraphs(t *testing.T) {
	d := &dice{3}
	for range 20000 {
		g := d.graph()
		suspects := d.row(d.below(5), -2, len(g.Counts)+2)
		garbage(t, g, suspects, plain(g, suspects)...)
	}
}

// The rows of nodes that wait are as long as they like: nothing is called within one another.
func TestGreatGraphs(t *testing.T) {
	n := 1 << 20
	g := api.Graph{Counts: make([]uint32, n), Edges: make([][]int, n)}
	for i := range n {
		g.Counts[i], g.Edges[i] = 1, []int{(i + 1) % n}
	}
	if l := Garbage(g, []int{n / 2}); !slices.Equal(l, all(n)) {
		t.Fatal(len(l))
	}
	g.Counts[7] = 2
	if l := Garbage(g, []int{n / 2}); len(l) != 0 {
		t.Fatal(len(l))
	}
}

func TestAStar(t *testing.T) {
	n := 1 << 20
	g := api.Graph{Counts: make([]uint32, n), Edges: [][]int{all(n)}}
	for i := range n {
		g.Counts[i] = 1
	}
	if l := Garbage(g, []int{0}); !slices.Equal(l, all(n)) {
		t.Fatal(len(l))
	}
	g.Counts[n-1] = 2
	if l := Garbage(g, []int{0}); !slices.Equal(l, all(n-1)) {
		t.Fatal(len(l))
	}
}

func TestAllHoldAll(t *testing.T) {
	n := 1000
	g := api.Graph{Counts: make([]uint32, n), Edges: make([][]int, n)}
	for i := range n {
		g.Counts[i], g.Edges[i] = uint32(n), all(n)
	}
	if l := Garbage(g, []int{n - 1}); !slices.Equal(l, all(n)) {
		t.Fatal(len(l))
	}
	g.Counts[0]++
	if l := Garbage(g, []int{n - 1}); len(l) != 0 {
		t.Fatal(len(l))
	}
}

func TestManyEdgesToOneNode(t *testing.T) {
	n := 1 << 20
	g := graph([]uint32{0, uint32(n)}, make([]int, n))
	for i := range n {
		g.Edges[0][i] = 1
	}
	if l := Garbage(g, []int{0}); !slices.Equal(l, []int{0, 1}) {
		t.Fatal(l)
	}
	g.Counts[1]++
	if l := Garbage(g, []int{0}); !slices.Equal(l, []int{0}) {
		t.Fatal(l)
	}
}

// R4: what is handed in stays as it was, the room behind its length too, which isn't read.
func TestWhatIsHandedInIsNotChanged(t *testing.T) {
	counts := []uint32{1, 1, 0, 0}
	edges := [][]int{{1, 0, 7}, {0, 1, 7}, {0, 1}}
	suspects := []int{1, 0, 2}
	g := api.Graph{Counts: counts[:2], Edges: [][]int{edges[0][:1], edges[1][:1], edges[2]}[:2]}
	garbage(t, g, suspects[:1], 0, 1)
	if !slices.Equal(counts, []uint32{1, 1, 0, 0}) || !slices.Equal(suspects, []int{1, 0, 2}) {
		t.Fatal(counts, suspects)
	}
	for i, l := range [][]int{{1, 0, 7}, {0, 1, 7}, {0, 1}} {
		if !slices.Equal(edges[i], l) || !slices.Equal(g.Edges[:3][i], l[:len(g.Edges[:3][i])]) {
			t.Fatal(edges, g.Edges[:3])
		}
	}
}

// P13.2

func TestBound(t *testing.T) {
	for _, c := range []struct {
		g    api.Graph
		want int
	}{
		{api.Graph{}, 8},
		{graph([]uint32{}, nil, []int{}), 8},
		{graph([]uint32{5}), 16},
		{graph([]uint32{1, 1}, []int{1}, []int{0}), 40},
		{graph([]uint32{0, 0, 0}, []int{1, 1, 1}), 56},
		{graph([]uint32{top}, nil, nil), 16},
		// All lists: those behind the nodes too, and elements that are no nodes.
		{graph(nil, []int{0}), 16},
		{graph([]uint32{1}, []int{-1, 9}, []int{0, 0, 0}), 56},
		{api.Graph{Counts: make([]uint32, 100000), Edges: [][]int{make([]int, 50000), nil, make([]int, 7)}}, 8 * 150008},
	} {
		if n := Bound(c.g); n != c.want {
			t.Errorf("Bound(%v) = %d, not %d", c.g, n, c.want)
		}
	}
}

func TestNoUnitsAreNone(t *testing.T) {
	g := graph([]uint32{1, 1, 1}, []int{1}, []int{0}, []int{2})
	whole := byUnits(t, begun(t, g, []int{1}), Bound(g))
	for after := range whole {
		r := begun(t, g, []int{1})
		for done := range whole {
			if done != after {
				r.Step(1)
				continue
			}
			for range 100 {
				for _, n := range []int{0, -1, -8, math.MinInt, math.MinInt32} {
					if r.Step(n) {
						t.Fatalf("Step(%d) ends a run behind %d of %d units", n, done, whole)
					}
					nothing(t, r)
				}
			}
			r.Step(1)
		}
		if !r.Step(0) || !slices.Equal(r.Garbage(), []int{0, 1}) {
			t.Fatal(after, r.Garbage())
		}
	}
}

// n units at once are n units one by one, however they are shared out.
func TestUnitsAreShared(t *testing.T) {
	g := graph([]uint32{1, 1, 2, 1, 2}, []int{1}, []int{2}, []int{0, 3}, []int{2}, []int{4})
	want := []int{0, 1, 2, 3}
	whole := byUnits(t, begun(t, g, []int{2, 4}), Bound(g))
	for size := 1; size <= whole+2; size++ {
		r := begun(t, g, []int{2, 4})
		done := 0
		for {
			done += size
			isOver := r.Step(size)
			if isOver != (done >= whole) {
				t.Fatalf("behind %d of %d units: %v", done, whole, isOver)
			}
			if isOver {
				break
			}
			nothing(t, r)
		}
		if l := r.Garbage(); !slices.Equal(l, want) {
			t.Fatal(size, l)
		}
	}
	for first := range whole {
		r := begun(t, g, []int{2, 4})
		if r.Step(first) || r.Step(whole-first-1) || !r.Step(1) || !slices.Equal(r.Garbage(), want) {
			t.Fatal(first, r.Garbage())
		}
	}
}

// A run is done a little at a time: one unit is no more than the next one.
func TestAUnitIsLittle(t *testing.T) {
	g := api.Graph{Counts: make([]uint32, 1000), Edges: [][]int{all(1000)}}
	if n := byUnits(t, begun(t, g, []int{0}), Bound(g)); n < 4000 {
		t.Fatal(n)
	}
}

func TestManyUnits(t *testing.T) {
	g := graph([]uint32{1, 1}, []int{1}, []int{0})
	r := begun(t, g, []int{0})
	for range 3 {
		if !r.Step(math.MaxInt) || !slices.Equal(r.Garbage(), []int{0, 1}) {
			t.Fatal(r.Garbage())
		}
	}
	r = begun(t, g, []int{0})
	if r.Step(1) || !r.Step(math.MaxInt) || !slices.Equal(r.Garbage(), []int{0, 1}) {
		t.Fatal(r.Garbage())
	}
}

func TestTheBoundIsEnough(t *testing.T) {
	d := &dice{5}
	for range 5000 {
		g := d.graph()
		suspects := d.row(d.below(9), -2, len(g.Counts)+2)
		r := begun(t, g, suspects)
		if !r.Step(Bound(g)) {
			t.Fatalf("%v, %v: not over", g, suspects)
		}
	}
}

// The bound knows nothing of how many suspects there are.
func TestTheBoundIsEnoughForAnySuspects(t *testing.T) {
	suspects := make([]int, 10000)
	for i := range suspects {
		suspects[i] = i%5 - 2
	}
	for _, g := range []api.Graph{{}, graph([]uint32{0}), graph([]uint32{1, 1}, []int{1}, []int{0})} {
		r := begun(t, g, suspects)
		if !r.Step(Bound(g)) || !slices.Equal(r.Garbage(), all(len(g.Counts))) {
			t.Fatal(r.Garbage())
		}
	}
}

func TestWhatIsOverStaysOver(t *testing.T) {
	g := graph([]uint32{0, 1, 2}, []int{1})
	r := begun(t, g, all(3))
	byUnits(t, r, Bound(g))
	for _, n := range []int{1, 0, -5, 100, math.MinInt, math.MaxInt} {
		if !r.Step(n) || !slices.Equal(r.Garbage(), []int{0, 1}) {
			t.Fatal(n, r.Garbage())
		}
	}
}

func TestWhatIsToldIsNewMemory(t *testing.T) {
	r := begun(t, graph([]uint32{1, 1}, []int{1}, []int{0}), []int{0})
	r.Step(math.MaxInt)
	l := r.Garbage()
	k := r.Garbage()
	l[0], l[1] = 7, 8
	_ = append(k[:1], 9)
	if l = r.Garbage(); !slices.Equal(l, []int{0, 1}) {
		t.Fatal(l)
	}
}

// What is handed to Begin may be changed meanwhile: the run doesn't see it.
func TestNothingHandedInIsKept(t *testing.T) {
	for after := range 20 {
		g := graph([]uint32{1, 1, 1}, []int{1}, []int{0}, []int{2})
		suspects := []int{1}
		r := begun(t, g, suspects)
		r.Step(after)
		suspects[0] = 2
		g.Counts[0], g.Counts[1], g.Counts[2] = 9, 9, 9
		g.Edges[0][0], g.Edges[1][0], g.Edges[2][0] = 2, 2, 0
		g.Edges[0], g.Edges[1] = nil, []int{1, 1, 1}
		r.Step(math.MaxInt)
		if l := r.Garbage(); !slices.Equal(l, []int{0, 1}) {
			t.Fatal(after, l)
		}
	}
}

func TestRunsDoNotSeeOneAnother(t *testing.T) {
	g := graph([]uint32{1, 1, 1}, []int{1}, []int{0}, []int{2})
	x, y := begun(t, g, []int{0}), begun(t, g, []int{2})
	for n := 0; !x.Step(0); n++ {
		x.Step(1)
		if n%2 == 0 {
			y.Step(1)
		}
	}
	if y.Step(0) || !slices.Equal(x.Garbage(), []int{0, 1}) {
		t.Fatal(x.Garbage())
	}
	nothing(t, y)
	if !y.Step(math.MaxInt) || !slices.Equal(y.Garbage(), []int{2}) || !slices.Equal(x.Garbage(), []int{0, 1}) {
		t.Fatal(y.Garbage(), x.Garbage())
	}
}

func TestANilRun(t *testing.T) {
	var r *Run
	for _, n := range []int{0, 1, -1, math.MaxInt, math.MinInt} {
		if !r.Step(n) || len(r.Garbage()) != 0 {
			t.Fatal(n, r.Garbage())
		}
	}
}

func TestARunThatBeginDidNotMake(t *testing.T) {
	r := new(Run)
	nothing(t, r)
	for _, n := range []int{1, 0, -1, math.MaxInt, math.MinInt} {
		if !r.Step(n) || len(r.Garbage()) != 0 {
			t.Fatal(n, r.Garbage())
		}
	}
}

// P13.3

func TestNothingThatIsHeldIsGarbage(t *testing.T) {
	d := &dice{11}
	for range 3000 {
		g := d.counted(1 + d.below(12))
		every := closure(g, all(len(g.Counts)))
		var held []int
		for i, n := range edgesTo(g, every) {
			if uint64(g.Counts[i]) > n {
				held = append(held, i)
			}
		}
		kept := closure(g, held)
		for _, i := range Garbage(g, d.row(1+d.below(3), 0, len(g.Counts))) {
			if kept[i] {
				t.Fatalf("%v: %d is garbage, though %v are held", g, i, held)
			}
		}
		var others []int
		for i := range g.Counts {
			if !kept[i] {
				others = append(others, i)
			}
		}
		if l := Garbage(g, all(len(g.Counts))); !slices.Equal(l, others) {
			t.Fatalf("%v: %v is garbage, not %v", g, l, others)
		}
	}
}

// A heap tells who holds whom, and what is found may be removed from it.
func TestRingsOfAHeap(t *testing.T) {
	p, e := heap.New(4, 10)
	if e != api.OK {
		t.Fatal(e)
	}
	var l []uint64
	for range 4 {
		h, e := p.Make(1, 0)
		if e != api.OK {
			t.Fatal(e)
		}
		l = append(l, h)
	}
	// A ring that is held still, and one that isn't.
	for i, to := range []int{1, 0, 3, 2} {
		p.Put(l[i], 0, api.Link{Kind: 1, H: l[to]})
	}
	for _, h := range l[1:] {
		p.Down(h)
	}
	g, wholes := p.Graph()
	var ring []uint64
	for _, place := range Garbage(g, all(len(wholes))) {
		ring = append(ring, wholes[place])
	}
	if gone, _, e := p.Remove(ring); e != api.OK || !slices.Equal(gone, l[2:]) {
		t.Fatal(gone, e)
	}
	g, wholes = p.Graph()
	if k := Garbage(g, all(len(wholes))); len(wholes) != 2 || len(k) != 0 {
		t.Fatal(wholes, k)
	}
}
