package flood_test

import (
	"math"
	"math/rand"
	"reflect"
	"slices"
	"testing"

	"selvage/api"
	"selvage/flood"
)

// self is the node, at level 2; other is the neighbor; third is any other node.
const self, other, third = 1, 9, 5

// piece returns a TIE of that direction, origin, Kind and level.
func piece(dir, origin, kind, level int) api.Tie {
	return api.Tie{Head: api.Head{Id: api.TieId{Dir: dir, Origin: origin, Kind: kind}}, Level: level}
}

// to returns the scope of the node towards a neighbor on that level.
func to(level int, top bool) api.Scope {
	return api.Scope{Self: self, Level: 2, Top: top, Other: api.Other{Node: other, Level: level}}
}

// full returns a TIE that has each of the things of which no rule speaks.
func full(t api.Tie) api.Tie {
	t.Head.Id.Nr, t.Head.Seq, t.Head.Life = 7, 5, 600
	t.Overload = true
	t.Edges = []api.Edge{{Node: third, Level: 1, Cost: 1}, {Node: other, Level: 3, Cost: 2}}
	t.Reaches = []api.Reach{{Prefix: api.Prefix{Net: 10 << 24, Bits: 8}, Metric: 3}}
	return t
}

// goes tells by the chapter's words, sentence by sentence, what Goes returns.
func goes(t api.Tie, s api.Scope) bool {
	isAbove, isBelow := s.Other.Level > s.Level, s.Other.Level < s.Level
	isBeside := s.Other.Level == s.Level
	of := t.Head.Id
	switch of.Dir {
	case 2: // North
		if isAbove {
			return true
		}
		if isBeside {
			return s.Top
		}
		return false
	case 1: // South
		if isBelow {
			return of.Origin == s.Self
		}
		if isBeside {
			return of.Kind == 1 && of.Origin == s.Self
		}
		return of.Kind == 1 && t.Level == s.Other.Level && of.Origin != s.Other.Node
	}
	return false
}

// check checks what Goes returns, and that Some returns the same.
func check(t *testing.T, x api.Tie, s api.Scope, want bool) {
	t.Helper()
	if got := flood.Goes(x, s); got != want {
		t.Fatalf("Goes(%+v, %+v) = %v, want %v", x, s, got, want)
	}
	got := flood.Some([]api.Tie{x}, s)
	if want && (len(got) != 1 || !same(got[0], x)) || !want && len(got) != 0 {
		t.Fatalf("Some of %+v alone, %+v = %+v", x, s, got)
	}
}

// same tells whether two TIEs are the same, where an empty list is none.
func same(x, y api.Tie) bool {
	if !slices.Equal(x.Edges, y.Edges) || !slices.Equal(x.Reaches, y.Reaches) {
		return false
	}
	x.Edges, x.Reaches, y.Edges, y.Reaches = nil, nil, nil, nil
	return reflect.DeepEqual(x, y)
}

// each calls f with the TIEs and the scopes of each combination of what rules
// speak of, equal to one another or not.
func each(f func(api.Tie, api.Scope)) {
	for _, dir := range []int{-1, 0, api.South, api.North, 3} {
		for _, origin := range []int{self, other, third} {
			for kind := 0; kind <= 5; kind++ {
				for level := 0; level <= 4; level++ {
					for _, of := range []int{self, other} {
						for own := 0; own <= 4; own++ {
							for his := 0; his <= 4; his++ {
								for _, top := range []bool{false, true} {
									f(piece(dir, origin, kind, level),
										api.Scope{Self: self, Level: own, Top: top, Other: api.Other{Node: of, Level: his}})
								}
							}
						}
					}
				}
			}
		}
	}
}

// P14.1: Goes

func TestGoesNorth(t *testing.T) {
	for _, origin := range []int{self, other, third} {
		for kind := api.TieNode; kind <= api.TieNegative; kind++ {
			for level := 0; level <= 4; level++ {
				x := piece(api.North, origin, kind, level)
				for _, top := range []bool{false, true} {
					check(t, x, to(3, top), true)
					check(t, x, to(4, top), true)
					check(t, x, to(24, top), true)
					check(t, x, to(2, top), top)
					check(t, x, to(1, top), false)
					check(t, x, to(0, top), false)
				}
			}
		}
	}
}

// The document's example.
func TestGoesFromALeaf(t *testing.T) {
	x := piece(api.North, self, api.TieNode, 0)
	check(t, x, api.Scope{Self: self, Other: api.Other{Node: other, Level: 1}}, true)
}

func TestGoesSouthToOneBelow(t *testing.T) {
	for kind := api.TieNode; kind <= api.TieNegative; kind++ {
		for level := 0; level <= 4; level++ {
			for _, his := range []int{0, 1} {
				for _, top := range []bool{false, true} {
					check(t, piece(api.South, self, kind, level), to(his, top), true)
					check(t, piece(api.South, other, kind, level), to(his, top), false)
					check(t, piece(api.South, third, kind, level), to(his, top), false)
				}
			}
		}
	}
}

func TestGoesSouthToOneBeside(t *testing.T) {
	for kind := api.TieNode; kind <= api.TieNegative; kind++ {
		for level := 0; level <= 4; level++ {
			for _, top := range []bool{false, true} {
				check(t, piece(api.South, self, kind, level), to(2, top), kind == api.TieNode)
				check(t, piece(api.South, other, kind, level), to(2, top), false)
				check(t, piece(api.South, third, kind, level), to(2, top), false)
			}
		}
	}
}

// A TIE is reflected to the nodes of its level, but for the one whose it is.
func TestGoesSouthToOneAbove(t *testing.T) {
	for kind := api.TieNode; kind <= api.TieNegative; kind++ {
		for level := 0; level <= 5; level++ {
			for _, his := range []int{3, 4} {
				for _, top := range []bool{false, true} {
					reflected := kind == api.TieNode && level == his
					check(t, piece(api.South, third, kind, level), to(his, top), reflected)
					check(t, piece(api.South, self, kind, level), to(his, top), reflected)
					check(t, piece(api.South, other, kind, level), to(his, top), false)
				}
			}
		}
	}
}

// Two nodes above one that hear its reflections learn about each other.
func TestReflection(t *testing.T) {
	x, y := piece(api.South, 11, api.TieNode, 3), piece(api.South, 12, api.TieNode, 3)
	s := to(3, false)
	s.Other.Node = 11
	check(t, x, s, false)
	check(t, y, s, true)
	s.Other.Node = 12
	check(t, x, s, true)
	check(t, y, s, false)
}

func TestGoesOfOtherDirs(t *testing.T) {
	for _, dir := range []int{0, 3, -1, -2, 4, 7, 1<<32 + 1, 1<<32 + 2, math.MinInt, math.MaxInt} {
		for _, origin := range []int{self, other, third} {
			for _, kind := range []int{0, api.TieNode, api.TiePrefix} {
				for level := 0; level <= 4; level++ {
					for _, top := range []bool{false, true} {
						check(t, piece(dir, origin, kind, level), to(level, top), false)
						check(t, piece(dir, origin, kind, level), to(3, top), false)
					}
				}
			}
		}
	}
}

func TestGoesOfEach(t *testing.T) {
	each(func(x api.Tie, s api.Scope) { check(t, x, s, goes(x, s)) })
}

// What no rule speaks of makes no difference, on whichever side the neighbor is.
func TestGoesByNothingElse(t *testing.T) {
	each(func(x api.Tie, s api.Scope) {
		s.Other.Link, s.Other.Nonce = 4, 65535
		check(t, full(x), s, goes(x, s))
	})
	// Of a TIE with Dir North, and of one that goes below, nor do these.
	for _, n := range []int{math.MinInt, -1, 0, 5, math.MaxInt} {
		check(t, piece(api.North, n, n, n), to(3, false), true)
		check(t, piece(api.North, n, n, n), to(2, true), true)
		check(t, piece(api.North, n, n, n), to(1, true), false)
		check(t, piece(api.South, self, n, n), to(1, false), true)
	}
}

// Numbers that are none of a node, a level or a Kind are compared as they are.
func TestGoesOfWrong(t *testing.T) {
	edges := []int{math.MinInt, math.MinInt + 1, -1, 0, 1, 2, 24, 25, 1 << 32, 1<<32 + 1, math.MaxInt - 1, math.MaxInt}
	for _, dir := range []int{api.South, api.North} {
		for _, kind := range []int{api.TieNode, api.TiePrefix, 0, -1, 1<<32 + 1, math.MinInt, math.MaxInt} {
			for _, own := range edges {
				for _, his := range edges {
					for _, level := range edges {
						for _, top := range []bool{false, true} {
							for _, origin := range []int{0, own, his} {
								x := piece(dir, origin, kind, level)
								s := api.Scope{Self: own, Level: own, Top: top, Other: api.Other{Node: his, Level: his}}
								if got, want := flood.Goes(x, s), goes(x, s); got != want {
									t.Fatalf("Goes(%+v, %+v) = %v, want %v", x, s, got, want)
								}
							}
						}
					}
				}
			}
		}
	}
	check(t, api.Tie{}, api.Scope{}, false)
	check(t, piece(api.South, 0, api.TieNode, 0), api.Scope{}, true)
	check(t, piece(api.North, 0, 0, 0), api.Scope{}, false)
}

// P14.2: Some

// some tells by the chapter's words what Some returns.
func some(l []api.Tie, s api.Scope) []api.Tie {
	var sent []api.Tie
	for _, x := range l {
		if goes(x, s) {
			sent = append(sent, x)
		}
	}
	return sent
}

// copied returns a list of TIEs that shares nothing with l.
func copied(l []api.Tie) []api.Tie {
	l = slices.Clone(l)
	for i := range l {
		l[i].Edges, l[i].Reaches = slices.Clone(l[i].Edges), slices.Clone(l[i].Reaches)
	}
	return l
}

// picks checks what Some returns, and that it leaves what it is given.
func picks(t *testing.T, l []api.Tie, s api.Scope) []api.Tie {
	t.Helper()
	was := copied(l)
	got := flood.Some(l, s)
	if want := some(was, s); !slices.EqualFunc(got, want, same) {
		t.Fatalf("Some(%+v, %+v) = %+v, want %+v", l, s, got, want)
	}
	if !reflect.DeepEqual(l, was) {
		t.Fatalf("Some left %+v of %+v", l, was)
	}
	return got
}

// many returns TIEs of all kinds, each of them different.
func many(r *rand.Rand, n int) []api.Tie {
	l := make([]api.Tie, n)
	for i := range l {
		l[i] = piece(r.Intn(4), []int{self, other, third}[r.Intn(3)], 1+r.Intn(4)*r.Intn(2), r.Intn(5))
		if r.Intn(2) == 0 {
			l[i] = full(l[i])
		}
		l[i].Head.Id.Nr = i
	}
	return l
}

func TestSome(t *testing.T) {
	node, nets := piece(api.South, self, api.TieNode, 2), full(piece(api.South, self, api.TiePrefix, 0))
	lack, leaf := piece(api.South, self, api.TiePositive, 0), full(piece(api.North, third, api.TieNode, 1))
	spine, his := full(piece(api.South, third, api.TieNode, 3)), piece(api.South, other, api.TieNode, 3)
	l := []api.Tie{spine, nets, leaf, his, node, lack, piece(3, self, api.TieNode, 3)}
	for name, x := range map[string]struct {
		s    api.Scope
		want []api.Tie
	}{
		"below":              {to(1, false), []api.Tie{nets, node, lack}},
		"below at the top":   {to(1, true), []api.Tie{nets, node, lack}},
		"beside":             {to(2, false), []api.Tie{node}},
		"beside at the top":  {to(2, true), []api.Tie{leaf, node}},
		"above":              {to(3, false), []api.Tie{spine, leaf}},
		"above at the top":   {to(3, true), []api.Tie{spine, leaf}},
		"far above":          {to(4, false), []api.Tie{leaf}},
		"above its own TIEs": {api.Scope{Self: self, Level: 2, Other: api.Other{Node: third, Level: 3}}, []api.Tie{leaf, his}},
	} {
		t.Run(name, func(t *testing.T) {
			if got := picks(t, l, x.s); !slices.EqualFunc(got, x.want, same) {
				t.Errorf("Some of %+v = %+v, want %+v", x.s, got, x.want)
			}
		})
	}
}

func TestSomeOfNone(t *testing.T) {
	for level := 0; level <= 4; level++ {
		for _, l := range [][]api.Tie{nil, {}, {piece(3, self, 1, 3)}, {{}, {}}} {
			if got := picks(t, l, to(level, true)); len(got) != 0 {
				t.Errorf("Some(%v) = %v", l, got)
			}
		}
	}
}

// The order is that of l, and what occurs twice goes twice: nothing is sorted or
// put together.
func TestSomeInOrder(t *testing.T) {
	x, y := full(piece(api.North, self, api.TieNode, 2)), piece(api.North, third, api.TiePrefix, 0)
	for _, l := range [][]api.Tie{{x, y}, {y, x}, {x, x}, {y, x, y}, {y, y, x, x, y}} {
		if got := picks(t, l, to(3, false)); !slices.EqualFunc(got, l, same) {
			t.Errorf("Some(%v) = %v", l, got)
		}
	}
}

func TestSomeOfMany(t *testing.T) {
	r := rand.New(rand.NewSource(1))
	for range 500 {
		l := many(r, r.Intn(40))
		for level := 0; level <= 4; level++ {
			for _, top := range []bool{false, true} {
				s := to(level, top)
				s.Other.Node = []int{self, other, third}[r.Intn(3)]
				picks(t, l, s)
			}
		}
	}
	picks(t, many(r, 20000), to(3, false))
}

// R3: what Some returns belongs to the caller, each list by itself.
func TestSomeAreTheCallers(t *testing.T) {
	x := full(piece(api.North, self, api.TieNode, 2))
	l := []api.Tie{x, piece(api.South, self, api.TiePrefix, 0), x, full(piece(api.North, third, api.TieNode, 2))}
	was, s := copied(l), to(3, false)
	want := copied(some(was, s))
	got, again := picks(t, l, s), picks(t, l, s)
	for i := range got {
		for k := range got[i].Edges {
			got[i].Edges[k] = api.Edge{Node: 77}
		}
		for k := range got[i].Reaches {
			got[i].Reaches[k] = api.Reach{Metric: 77}
		}
		_, _ = append(got[i].Edges, api.Edge{Node: 78}), append(got[i].Reaches, api.Reach{Metric: 78})
		got[i].Level = 79
		if !slices.EqualFunc(got[i+1:], want[i+1:], same) || !slices.EqualFunc(again, want, same) || !reflect.DeepEqual(l, was) {
			t.Fatalf("a change of the TIE %d led to %+v, %+v, %+v", i, got[i+1:], again, l)
		}
	}
	for i := range l {
		l[i].Level = 80
		for k := range l[i].Edges {
			l[i].Edges[k] = api.Edge{Node: 80}
		}
	}
	if !slices.EqualFunc(again, want, same) {
		t.Errorf("a change of the argument led to %+v", again)
	}
}

// P14.3: the theorem

// What is known of above, or beside, never gets down.
func TestNothingGetsDown(t *testing.T) {
	check := func(x api.Tie, s api.Scope) {
		t.Helper()
		of, sent := x.Head.Id, flood.Goes(x, s) || len(flood.Some([]api.Tie{x}, s)) != 0
		isBelow, isBeside := s.Other.Level < s.Level, s.Other.Level == s.Level
		switch {
		case !sent:
		case of.Dir == api.North && isBelow:
			t.Fatalf("%+v goes north to one below: %+v", x, s)
		case of.Origin != s.Self && isBelow:
			t.Fatalf("%+v of another goes to one below: %+v", x, s)
		case of.Origin != s.Self && of.Dir == api.South && isBeside:
			t.Fatalf("%+v of another goes south to one beside: %+v", x, s)
		}
	}
	each(check)
	r := rand.New(rand.NewSource(2))
	for range 100000 {
		n := func() int { return r.Intn(6) - 1 }
		check(piece(n(), n(), n(), n()), api.Scope{Self: n(), Level: n(), Top: r.Intn(2) == 0, Other: api.Other{Node: n(), Link: n(), Level: n(), Nonce: n()}})
	}
}

// In a fabric that floods by these rules until nothing more goes, each node knows
// of others the TIEs with Dir North of all below it; and with Dir South those of
// its neighbors above, and those of its level that are reflected to it.
func TestFlooding(t *testing.T) {
	// The tops 21 and 22 are above 11 and 12 both; the leaf 1 is below both of these,
	// and the leaf 2 is below 12 alone.
	levels := map[int]int{1: 0, 2: 0, 11: 1, 12: 1, 21: 2, 22: 2}
	cables := [][2]int{{1, 11}, {1, 12}, {2, 12}, {11, 21}, {11, 22}, {12, 21}, {12, 22}}
	known := map[int]map[api.TieId]api.Tie{}
	for n, level := range levels {
		known[n] = map[api.TieId]api.Tie{}
		for _, dir := range []int{api.South, api.North} {
			x := piece(dir, n, api.TieNode, level)
			known[n][x.Head.Id] = x
			x = piece(dir, n, api.TiePrefix, 0)
			known[n][x.Head.Id] = x
		}
	}
	sends := func(from, to int) {
		s := api.Scope{Self: from, Level: levels[from], Top: levels[from] == 2, Other: api.Other{Node: to, Level: levels[to]}}
		for id, x := range known[from] {
			if flood.Goes(x, s) {
				known[to][id] = x
			}
		}
	}
	for range 5 {
		for _, c := range cables {
			sends(c[0], c[1])
			sends(c[1], c[0])
		}
	}
	both := []int{api.TieNode, api.TiePrefix}
	for n, want := range map[int]map[int][]int{ // of which origins there are TIEs with Dir South, of which Kinds
		1:  {1: both, 11: both, 12: both},
		2:  {2: both, 12: both},
		11: {11: both, 12: {api.TieNode}, 21: both, 22: both},
		12: {11: {api.TieNode}, 12: both, 21: both, 22: both},
		21: {21: both, 22: {api.TieNode}},
		22: {21: {api.TieNode}, 22: both},
	} {
		for of := range levels {
			for _, kind := range both {
				_, is := known[n][piece(api.South, of, kind, 0).Head.Id]
				if is != slices.Contains(want[of], kind) {
					t.Errorf("%d knows the TIE of Kind %d of %d with Dir South: %v", n, kind, of, is)
				}
				_, is = known[n][piece(api.North, of, kind, 0).Head.Id]
				isBelow := levels[of] < levels[n] && (n != 11 || of != 2)
				if is != (of == n || isBelow) {
					t.Errorf("%d knows the TIE of Kind %d of %d with Dir North: %v", n, kind, of, is)
				}
			}
		}
	}
}

// FuzzGoes searches for a TIE and a scope of which Goes tells otherwise than the
// chapter.
func FuzzGoes(f *testing.F) {
	f.Add(api.South, third, api.TieNode, 3, self, 2, false, other, 3)
	f.Add(api.South, self, api.TieNode, 2, self, 2, false, other, 2)
	f.Add(api.North, third, api.TiePrefix, 0, self, 2, true, other, 2)
	f.Add(api.South, self, api.TiePrefix, 0, self, 2, false, other, 1)
	f.Fuzz(func(t *testing.T, dir, origin, kind, level, self, own int, top bool, node, his int) {
		x := full(piece(dir, origin, kind, level))
		s := api.Scope{Self: self, Level: own, Top: top, Other: api.Other{Node: node, Level: his}}
		check(t, x, s, goes(x, s))
	})
}
