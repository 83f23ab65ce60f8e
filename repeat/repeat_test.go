package repeat_test

import (
	"math"
	"math/rand"
	"reflect"
	"slices"
	"testing"

	"selvage/api"
	"selvage/repeat"
)

// above returns a parent.
func above(node int, grands ...int) api.Parent {
	return api.Parent{Node: node, Grands: grands}
}

// plain returns the parents 1 to n, in descending order, with one grandparent each.
func plain(n int) []api.Parent {
	var l []api.Parent
	for node := n; node >= 1; node-- {
		l = append(l, above(node, 100+node))
	}
	return l
}

// nodes returns the Nodes of parents.
func nodes(l []api.Parent) []int {
	var all []int
	for _, p := range l {
		all = append(all, p.Node)
	}
	return all
}

// same tells whether two parents are the same, where an empty list is none.
func same(x, y api.Parent) bool {
	return x.Node == y.Node && slices.Equal(x.Grands, y.Grands)
}

// copied returns a list of parents that shares nothing with l.
func copied(l []api.Parent) []api.Parent {
	l = slices.Clone(l)
	for i := range l {
		l[i].Grands = slices.Clone(l[i].Grands)
	}
	return l
}

// grands tells how many different numbers there are in a parent's Grands.
func grands(p api.Parent) int {
	n := 0
	for i, g := range p.Grands {
		if !slices.Contains(p.Grands[:i], g) {
			n++
		}
	}
	return n
}

// order tells by the chapter's words, sentence by sentence, what Order returns.
func order(l []api.Parent, draws []int) []api.Parent {
	var kept []api.Parent
	for _, p := range l {
		i := 0
		for i < len(kept) && kept[i].Node < p.Node {
			i++
		}
		if i == len(kept) || kept[i].Node != p.Node {
			kept = slices.Insert(kept, i, p)
		}
	}
	taken := 0
	for i := len(kept) - 1; i >= 1; i-- {
		at := 0
		if taken < len(draws) && draws[taken] >= 0 {
			at = draws[taken] % (i + 1)
		}
		taken++
		x, y := kept[i], kept[at]
		kept[at], kept[i] = x, y
	}
	most := 0
	for _, p := range kept {
		most = max(most, grands(p))
	}
	var sorted []api.Parent
	for n := most; n >= 0; n-- {
		for _, p := range kept {
			if grands(p) == n {
				sorted = append(sorted, p)
			}
		}
	}
	return sorted
}

// reaching tells how many of the parents of l with those Nodes have a grandparent.
func reaching(l []api.Parent, which []int, grand int) int {
	n := 0
	for _, p := range l {
		if slices.Contains(which, p.Node) && slices.Contains(p.Grands, grand) {
			n++
		}
	}
	return n
}

// elect tells by the chapter's words, sentence by sentence, what Elect returns.
func elect(l []api.Parent, often int, draws []int) []int {
	if often < 1 {
		often = 1
	}
	ordered := order(l, draws)
	var elected []int
	for _, p := range ordered {
		for _, g := range p.Grands {
			if reaching(ordered, elected, g) < often {
				elected = append(elected, p.Node)
				break
			}
		}
	}
	slices.Sort(elected)
	return elected
}

// ordered checks what Order returns, and that it leaves what it is given.
func ordered(t *testing.T, l []api.Parent, draws []int) []api.Parent {
	t.Helper()
	wasList, wasDraws := copied(l), slices.Clone(draws)
	got := repeat.Order(l, draws)
	if want := order(wasList, wasDraws); !slices.EqualFunc(got, want, same) {
		t.Fatalf("Order(%v, %v) = %v, want %v", wasList, wasDraws, got, want)
	}
	if !reflect.DeepEqual(l, wasList) || !slices.Equal(draws, wasDraws) {
		t.Fatalf("Order left %v, %v of %v, %v", l, draws, wasList, wasDraws)
	}
	return got
}

// elected checks what Elect returns, and that it leaves what it is given.
func elected(t *testing.T, l []api.Parent, often int, draws []int) []int {
	t.Helper()
	wasList, wasDraws := copied(l), slices.Clone(draws)
	got := repeat.Elect(l, often, draws)
	if want := elect(wasList, often, wasDraws); !slices.Equal(got, want) {
		t.Fatalf("Elect(%v, %d, %v) = %v, want %v", wasList, often, wasDraws, got, want)
	}
	if !reflect.DeepEqual(l, wasList) || !slices.Equal(draws, wasDraws) {
		t.Fatalf("Elect left %v, %v of %v, %v", l, draws, wasList, wasDraws)
	}
	return got
}

// some returns up to so many parents, and draws for them, of which a few are below
// 0, or too few or too many.
func some(r *rand.Rand, most int) ([]api.Parent, []int) {
	l := make([]api.Parent, r.Intn(most+1))
	for i := range l {
		l[i].Node = r.Intn(most+2) - 1
		for range r.Intn(5) {
			l[i].Grands = append(l[i].Grands, r.Intn(6)-1)
		}
	}
	draws := make([]int, r.Intn(most+3))
	for i := range draws {
		draws[i] = r.Intn(4*most+4) - most
	}
	return l, draws
}

// P15.1: Order

func TestOrderOfNone(t *testing.T) {
	for _, l := range [][]api.Parent{nil, {}} {
		for _, draws := range [][]int{nil, {}, {0}, {-1, 3, 5}} {
			if got := ordered(t, l, draws); len(got) != 0 {
				t.Errorf("Order(%v, %v) = %v", l, draws, got)
			}
		}
	}
}

func TestOrderOfOne(t *testing.T) {
	for _, l := range [][]api.Parent{{above(3)}, {above(3, 9, 8, 9)}, {above(3, 7), above(3, 9, 8)}} {
		for _, draws := range [][]int{nil, {0}, {1}, {-1}, {5, 5, 5}} {
			if got := ordered(t, l, draws); len(got) != 1 || !same(got[0], l[0]) {
				t.Errorf("Order(%v, %v) = %v", l, draws, got)
			}
		}
	}
}

// Of a Node, the first parent is taken, whatever the others have, and it is
// returned as it is.
func TestOrderTakesTheFirst(t *testing.T) {
	l := []api.Parent{above(2, 8, 7, 8), above(1, 9), above(2, 7, 8, 9, 10), above(1), above(1, 7, 8, 9, 10), above(3)}
	want := []api.Parent{above(2, 8, 7, 8), above(1, 9), above(3)}
	for _, draws := range [][]int{nil, {0, 0}, {2, 1}, {1, 1}, {-1, 1}} {
		if got := ordered(t, l, draws); !slices.EqualFunc(got, want, same) {
			t.Errorf("Order(%v, %v) = %v, want %v", l, draws, got, want)
		}
	}
	l = []api.Parent{above(2), above(2, 8), above(1, 8)}
	if got := ordered(t, l, nil); got[0].Node != 1 || len(got) != 2 || len(got[1].Grands) != 0 {
		t.Errorf("Order(%v) = %v", l, got)
	}
}

func TestOrderShuffles(t *testing.T) {
	for _, x := range []struct{ draws, want []int }{
		// 4231, 3241, 2341: without draws, each is exchanged with the one at 0.
		{nil, []int{2, 3, 4, 1}},
		{[]int{}, []int{2, 3, 4, 1}},
		{[]int{0}, []int{2, 3, 4, 1}},
		{[]int{0, 0, 0}, []int{2, 3, 4, 1}},
		// Each is exchanged with itself.
		{[]int{3, 2, 1}, []int{1, 2, 3, 4}},
		{[]int{7, 5, 3}, []int{1, 2, 3, 4}},
		{[]int{4003, 3002, 2001}, []int{1, 2, 3, 4}},
		// There are fewer draws than exchanges.
		{[]int{3, 2}, []int{2, 1, 3, 4}},
		{[]int{3}, []int{2, 3, 1, 4}},
		{[]int{1}, []int{4, 3, 1, 2}},
		// There are more.
		{[]int{3, 2, 1, 0, 0, 0, 0}, []int{1, 2, 3, 4}},
		{[]int{0, 0, 1, 1, 1, 1}, []int{3, 2, 4, 1}},
		// The remainder is that by i + 1, not by the length.
		{[]int{2, 3, 1}, []int{4, 2, 1, 3}},
		{[]int{1, 2, 1}, []int{1, 4, 3, 2}},
		{[]int{6, 4, 2}, []int{4, 1, 2, 3}},
		// A draw below 0 counts as 0, and is used up.
		{[]int{-1, 2, 1}, []int{4, 2, 3, 1}},
		{[]int{-3, 2, 1}, []int{4, 2, 3, 1}},
		{[]int{-4, 2, 1}, []int{4, 2, 3, 1}},
		{[]int{3, -1, 1}, []int{3, 2, 1, 4}},
		{[]int{3, -2, 1}, []int{3, 2, 1, 4}},
		{[]int{3, 2, -1}, []int{2, 1, 3, 4}},
		{[]int{-1, -1, -1}, []int{2, 3, 4, 1}},
		{[]int{math.MinInt, 2, 1}, []int{4, 2, 3, 1}},
		// The greatest int is 1 modulo 3, 3 modulo 4, and odd.
		{[]int{math.MaxInt, math.MaxInt, math.MaxInt}, []int{1, 3, 2, 4}},
	} {
		if got := nodes(ordered(t, plain(4), x.draws)); !slices.Equal(got, x.want) {
			t.Errorf("of draws %v: %v, want %v", x.draws, got, x.want)
		}
	}
}

// Whatever order the parents are in, they are shuffled from the ascending one.
func TestOrderShufflesAscending(t *testing.T) {
	r := rand.New(rand.NewSource(1))
	for range 200 {
		l := plain(6)
		draws := make([]int, r.Intn(8))
		for i := range draws {
			draws[i] = r.Intn(20) - 5
		}
		want := nodes(ordered(t, l, draws))
		r.Shuffle(len(l), func(i, k int) { l[i], l[k] = l[k], l[i] })
		if got := nodes(ordered(t, l, draws)); !slices.Equal(got, want) {
			t.Fatalf("Order(%v, %v) = %v, want %v", l, draws, got, want)
		}
	}
}

// By its draws, parents that are equal get into each order, each by one.
func TestOrderGetsEachOrder(t *testing.T) {
	seen := map[[4]int]bool{}
	for a := range 4 {
		for b := range 3 {
			for c := range 2 {
				seen[[4]int(nodes(ordered(t, plain(4), []int{a, b, c})))] = true
			}
		}
	}
	if len(seen) != 24 {
		t.Errorf("%d orders", len(seen))
	}
}

// A grandparent counts once, however often it occurs.
func TestOrderByGrandparents(t *testing.T) {
	l := []api.Parent{above(1), above(2, 7, 7, 7, 7), above(3, 7, 8), above(4, 7, 8, 9), above(5, 9, 7, 9, 8, 7, 10), above(6, 8)}
	for _, x := range []struct{ draws, want []int }{
		{[]int{5, 4, 3, 2, 1}, []int{5, 4, 3, 2, 6, 1}},
		// They are shuffled to 623451.
		{[]int{0, 4, 3, 2, 1}, []int{5, 4, 3, 6, 2, 1}},
	} {
		if got := nodes(ordered(t, l, x.draws)); !slices.Equal(got, x.want) {
			t.Errorf("of draws %v: %v, want %v", x.draws, got, x.want)
		}
	}
}

// Parents with equally many grandparents keep the order in which the draws put
// them, in a list that is long enough for a sort that would not keep it.
func TestOrderKeepsEquals(t *testing.T) {
	r := rand.New(rand.NewSource(2))
	for range 50 {
		var l []api.Parent
		for node := range 300 {
			l = append(l, above(node, slices.Repeat([]int{node, -node - 1}, r.Intn(3))...))
		}
		draws := make([]int, 310)
		for i := range draws {
			draws[i] = r.Intn(1000) - 100
		}
		ordered(t, l, draws)
		ordered(t, l, nil)
	}
}

// Numbers that are none of a node are compared as they are.
func TestOrderOfWrong(t *testing.T) {
	edges := []int{math.MinInt, math.MinInt + 1, -1, 0, 1, 1000, 1001, 1 << 32, 1<<32 + 1, math.MaxInt - 1, math.MaxInt}
	var l []api.Parent
	for _, n := range slices.Backward(edges) {
		l = append(l, above(n, n))
	}
	steady := []int{10, 9, 8, 7, 6, 5, 4, 3, 2, 1}
	if got := nodes(ordered(t, l, steady)); !slices.Equal(got, edges) {
		t.Errorf("Order(%v) = %v", l, got)
	}
	ordered(t, l, edges)
	l = []api.Parent{above(1, edges...), above(2, append(edges, edges...)...), above(0, edges[1:]...)}
	if got := nodes(ordered(t, l, []int{2, 1})); !slices.Equal(got, []int{1, 2, 0}) {
		t.Errorf("Order(%v) = %v", l, got)
	}
}

func TestOrderOfMany(t *testing.T) {
	r := rand.New(rand.NewSource(3))
	for range 5000 {
		l, draws := some(r, 8)
		ordered(t, l, draws)
	}
	l, draws := some(r, 3000)
	ordered(t, l, draws)
}

// R3: what Order returns belongs to the caller, each list by itself.
func TestOrderIsTheCallers(t *testing.T) {
	shared := []int{8, 9, 8}
	l := []api.Parent{{Node: 2, Grands: shared}, above(1, 7), {Node: 3, Grands: shared}, {Node: 4, Grands: shared[:1]}}
	was, draws := copied(l), []int{1, 2, 0}
	want := copied(order(was, draws))
	got, again := ordered(t, l, draws), ordered(t, l, draws)
	for i := range got {
		for k := range got[i].Grands {
			got[i].Grands[k] = 77
		}
		_ = append(got[i].Grands, 78, 78, 78)
		got[i].Node = 79
		if !slices.EqualFunc(got[i+1:], want[i+1:], same) || !slices.EqualFunc(again, want, same) || !reflect.DeepEqual(l, was) {
			t.Fatalf("a change of the parent %d led to %v, %v, %v", i, got[i+1:], again, l)
		}
	}
	shared[0], l[1].Grands[0], l[0].Node, draws[0] = 80, 80, 80, 80
	if !slices.EqualFunc(again, want, same) {
		t.Errorf("a change of the arguments led to %v", again)
	}
}

// P15.2: Elect

// The document's example.
func TestElectOfTheDocument(t *testing.T) {
	l := []api.Parent{above(1, 8, 9), above(2, 8)}
	for _, draws := range [][]int{nil, {0}, {1}, {-1}} {
		if got := elected(t, l, 1, draws); !slices.Equal(got, []int{1}) {
			t.Errorf("Elect(%v, 1, %v) = %v", l, draws, got)
		}
	}
	if got := elected(t, l, 2, nil); !slices.Equal(got, []int{1, 2}) {
		t.Errorf("Elect(%v, 2) = %v", l, got)
	}
}

func TestElectOfNone(t *testing.T) {
	for _, l := range [][]api.Parent{nil, {}, {above(1)}, {above(1), above(2), above(1, 8)}, {{}}} {
		for _, often := range []int{math.MinInt, -1, 0, 1, 2, math.MaxInt} {
			if got := elected(t, l, often, []int{0, 1}); len(got) != 0 {
				t.Errorf("Elect(%v, %d) = %v", l, often, got)
			}
		}
	}
}

func TestElect(t *testing.T) {
	// Each of 1 to 4 reaches two of four grandparents, 5 reaches three, 6 one.
	l := []api.Parent{above(6, 14), above(4, 14, 11), above(5, 11, 12, 13), above(1, 11, 12), above(2, 12, 13), above(3, 13, 14)}
	steady, other := []int{5, 4, 3, 2, 1}, []int{5, 4, 0, 2, 1}
	for _, x := range []struct {
		often       int
		draws, want []int
	}{
		{math.MinInt, steady, []int{3, 5}},
		{-1, steady, []int{3, 5}},
		{0, steady, []int{3, 5}},
		{1, steady, []int{3, 5}},
		// 5 is asked first, then 4, 2, 3, 1.
		{1, other, []int{4, 5}},
		{2, steady, []int{1, 2, 3, 4, 5}},
		// By 5, 4, 2 and 3, each is reached twice.
		{2, other, []int{2, 3, 4, 5}},
		// 14 is reached by 3 and 4, and by 6 once more.
		{3, steady, []int{1, 2, 3, 4, 5, 6}},
		{4, steady, []int{1, 2, 3, 4, 5, 6}},
		{math.MaxInt, steady, []int{1, 2, 3, 4, 5, 6}},
	} {
		if got := elected(t, l, x.often, x.draws); !slices.Equal(got, x.want) {
			t.Errorf("Elect(%d, %v) = %v, want %v", x.often, x.draws, got, x.want)
		}
	}
}

// A grandparent that occurs several times at one parent is reached by one.
func TestElectCountsOnce(t *testing.T) {
	l := []api.Parent{above(1, 8, 8, 8), above(2, 8), above(3, 8, 8)}
	for often, want := range [][]int{{1}, {1}, {1, 2}, {1, 2, 3}, {1, 2, 3}} {
		if got := elected(t, l, often, []int{2, 1}); !slices.Equal(got, want) {
			t.Errorf("Elect(%d) = %v, want %v", often, got, want)
		}
	}
}

// The first parent of a Node is elected, or not, whatever others it has.
func TestElectTakesTheFirst(t *testing.T) {
	l := []api.Parent{above(2, 8), above(1, 8, 9), above(2, 7), above(3), above(3, 6)}
	for _, often := range []int{0, 1} {
		if got := elected(t, l, often, nil); !slices.Equal(got, []int{1}) {
			t.Errorf("Elect(%v, %d) = %v", l, often, got)
		}
	}
	if got := elected(t, l, 2, nil); !slices.Equal(got, []int{1, 2}) {
		t.Errorf("Elect(%v, 2) = %v", l, got)
	}
}

func TestElectByDraws(t *testing.T) {
	l := plain(4)
	for i := range l {
		l[i].Grands = []int{9}
	}
	for _, x := range []struct{ draws, want []int }{
		{nil, []int{2, 3}},
		{[]int{3, 2, 1}, []int{1, 2}},
		{[]int{-1, 2, 1}, []int{2, 4}},
		{[]int{2, 0, 1}, []int{2, 4}},
		{[]int{1, 2, 1}, []int{1, 4}},
		{[]int{3, 0, 1}, []int{2, 3}},
	} {
		if got := elected(t, l, 2, x.draws); !slices.Equal(got, x.want) {
			t.Errorf("of draws %v: %v, want %v", x.draws, got, x.want)
		}
	}
}

// Numbers that are none of a node are compared as they are.
func TestElectOfWrong(t *testing.T) {
	edges := []int{math.MinInt, -1, 0, 1, 1001, 1<<32 + 1, math.MaxInt}
	var l []api.Parent
	for i, n := range slices.Backward(edges) {
		l = append(l, above(n, edges[i]), above(n, 5))
	}
	for _, often := range edges {
		if got := elected(t, l, often, edges); !slices.Equal(got, edges) {
			t.Errorf("Elect(%v, %d) = %v", l, often, got)
		}
	}
}

func TestElectOfMany(t *testing.T) {
	r := rand.New(rand.NewSource(4))
	for range 10000 {
		l, draws := some(r, 8)
		elected(t, l, r.Intn(6)-1, draws)
	}
	var l []api.Parent
	for node := range 20000 {
		l = append(l, above(node, node/3, node/2, 30000+node%5))
	}
	if got := repeat.Elect(l, math.MaxInt, nil); len(got) != len(l) || !slices.IsSorted(got) {
		t.Errorf("%d are elected of %d", len(got), len(l))
	}
	if got := repeat.Elect([]api.Parent{above(1, slices.Repeat([]int{3, 4}, 500000)...), above(2, 4)}, 1, nil); !slices.Equal(got, []int{1}) {
		t.Error(got)
	}
}

// R3: what Elect returns belongs to the caller; R4: the same arguments lead to the
// same results.
func TestElectIsTheCallers(t *testing.T) {
	r := rand.New(rand.NewSource(5))
	for range 200 {
		l, draws := some(r, 30)
		want := elected(t, l, 2, draws)
		for range 5 {
			got := elected(t, l, 2, draws)
			if !slices.Equal(got, want) {
				t.Fatalf("Elect(%v, 2, %v) = %v, and %v", l, draws, want, got)
			}
			for i := range got {
				got[i] = 77
			}
		}
	}
}

// P15.3: the theorem

// reached returns the grandparents that the parents with those Nodes have, in
// ascending order.
func reached(l []api.Parent, which []int) []int {
	var all []int
	for _, p := range l {
		if slices.Contains(which, p.Node) {
			all = append(all, p.Grands...)
		}
	}
	slices.Sort(all)
	return slices.Compact(all)
}

// each calls f with each list of three parents that have some of three
// grandparents each, and draws that put them into each order.
func each(f func([]api.Parent, []int)) {
	for set := range 1 << 9 {
		l := make([]api.Parent, 3)
		for i := range l {
			l[i].Node = i + 1
			for k := range 3 {
				if set>>(3*i+k)&1 == 1 {
					l[i].Grands = append(l[i].Grands, 7+k)
				}
			}
		}
		for a := range 3 {
			for b := range 2 {
				f(l, []int{a, b})
			}
		}
	}
}

// Each grandparent is reached so often, or by all that reach it, and whatever is
// drawn, each grandparent is reached.
func TestReached(t *testing.T) {
	check := func(l []api.Parent, often int, draws []int) {
		t.Helper()
		got := repeat.Elect(l, often, draws)
		all := repeat.Order(l, nil)
		if !slices.IsSorted(got) || len(slices.Compact(slices.Clone(got))) != len(got) {
			t.Fatalf("Elect(%v, %d, %v) = %v", l, often, draws, got)
		}
		for _, n := range got {
			if !slices.Contains(nodes(all), n) {
				t.Fatalf("Elect(%v, %d, %v) = %v: %d is no parent", l, often, draws, got, n)
			}
		}
		grand := reached(all, nodes(all))
		if by := reached(all, got); !slices.Equal(by, grand) {
			t.Fatalf("Elect(%v, %d, %v) = %v reach %v of %v", l, often, draws, got, by, grand)
		}
		for _, g := range grand {
			if n := reaching(all, got, g); n < max(often, 1) && n != reaching(all, nodes(all), g) {
				t.Fatalf("%d is reached by %d of Elect(%v, %d, %v) = %v", g, n, l, often, draws, got)
			}
		}
	}
	each(func(l []api.Parent, draws []int) {
		for often := -1; often <= 4; often++ {
			check(l, often, draws)
			elected(t, l, often, draws)
		}
	})
	r := rand.New(rand.NewSource(6))
	for range 5000 {
		l, draws := some(r, 12)
		check(l, r.Intn(6)-1, draws)
	}
}

// With an additional parent no fewer grandparents are reached.
func TestReachedWithOneMore(t *testing.T) {
	r := rand.New(rand.NewSource(7))
	for range 5000 {
		l, draws := some(r, 10)
		often := r.Intn(5) - 1
		before := reached(repeat.Order(l, nil), repeat.Elect(l, often, draws))
		more := append(copied(l), above(50, r.Intn(6)-1, 6, r.Intn(6)-1))
		after := reached(repeat.Order(more, nil), repeat.Elect(more, often, draws))
		for _, g := range before {
			if !slices.Contains(after, g) {
				t.Fatalf("%v reach %v, and %v reach %v", l, before, more, after)
			}
		}
		if !slices.Contains(after, 6) {
			t.Fatalf("%v don't reach 6", more)
		}
	}
}

// Draws change the choice.
func TestDrawsChoose(t *testing.T) {
	l := []api.Parent{above(1, 8), above(2, 8), above(3, 8)}
	chosen := map[int]bool{}
	for a := range 3 {
		for b := range 2 {
			got := elected(t, l, 1, []int{a, b})
			if len(got) != 1 {
				t.Fatal(got)
			}
			chosen[got[0]] = true
		}
	}
	if len(chosen) != 3 {
		t.Error(chosen)
	}
}

// FuzzElect searches for parents and draws of which Order or Elect tells otherwise
// than the chapter: each parent is a byte for its Node, one for how many Grands it
// has, and these.
func FuzzElect(f *testing.F) {
	f.Add([]byte{1, 2, 8, 9, 2, 1, 8}, 1, []byte{0, 200, 7})
	f.Add([]byte{2, 2, 8, 8, 1, 2, 8, 9, 3, 1, 9, 4, 0, 2, 1, 7}, 2, []byte{5, 255, 3})
	f.Fuzz(func(t *testing.T, b []byte, often int, drawn []byte) {
		if len(b) > 400 {
			return
		}
		var l []api.Parent
		for len(b) >= 2 {
			p := above(int(int8(b[0])))
			n := min(int(b[1])%8, len(b)-2)
			for _, g := range b[2 : 2+n] {
				p.Grands = append(p.Grands, int(int8(g)))
			}
			l, b = append(l, p), b[2+n:]
		}
		var draws []int
		for _, d := range drawn {
			draws = append(draws, int(int8(d)))
		}
		ordered(t, l, draws)
		elected(t, l, often, draws)
	})
}
