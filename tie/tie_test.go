package tie_test

import (
	"math"
	"math/big"
	"math/rand"
	"slices"
	"testing"

	"selvage/api"
	"selvage/tie"
	"selvage/wire"
)

// edges are numbers at the edges of what a number of an id or a head may be, and
// of what any number may be.
var edges = []int{math.MinInt, math.MinInt + 1, math.MinInt32, -300, -1, 0, 1, 2, 3, 4, 5, 300, 301, 999, 1000, 1001, 65534, 65535, 65536,
	math.MaxInt32, 1 << 32, 1<<32 + 1, 1 << 40, math.MaxInt - 301, math.MaxInt - 300, math.MaxInt - 1, math.MaxInt}

// id returns an id.
func id(dir, origin, kind, nr int) api.TieId {
	return api.TieId{Dir: dir, Origin: origin, Kind: kind, Nr: nr}
}

// head returns a head.
func head(of api.TieId, seq, life int) api.Head { return api.Head{Id: of, Seq: seq, Life: life} }

// sign returns whether a number is less than, equal to or greater than another.
func sign(a, b int) int {
	switch {
	case a < b:
		return -1
	case a > b:
		return 1
	}
	return 0
}

// order tells by the chapter's words what Compare returns.
func order(a, b api.TieId) int {
	for _, n := range []int{sign(a.Dir, b.Dir), sign(a.Origin, b.Origin), sign(a.Kind, b.Kind), sign(a.Nr, b.Nr)} {
		if n != 0 {
			return n
		}
	}
	return 0
}

// exceeds tells whether a exceeds b by more than 300.
func exceeds(a, b int) bool {
	return new(big.Int).Sub(big.NewInt(int64(a)), big.NewInt(int64(b))).Cmp(big.NewInt(300)) > 0
}

// isNewer tells by the chapter's words whether Newer returns 1.
func isNewer(a, b api.Head) bool {
	return a.Seq > b.Seq || a.Seq == b.Seq && exceeds(a.Life, b.Life)
}

// newer tells what Newer returns.
func newer(a, b api.Head) int {
	switch {
	case isNewer(a, b):
		return 1
	case isNewer(b, a):
		return -1
	}
	return 0
}

// merged tells what Merge returns, by lists alone.
func merged(l, m []api.Head) []api.Head {
	var kept []api.Head
	for _, h := range append(slices.Clone(l), m...) {
		i := slices.IndexFunc(kept, func(k api.Head) bool { return k.Id == h.Id })
		switch {
		case i < 0:
			kept = append(kept, h)
		case isNewer(h, kept[i]):
			kept[i] = h
		}
	}
	for i := range kept {
		for k := range i {
			if order(kept[i].Id, kept[k].Id) < 0 {
				kept[i], kept[k] = kept[k], kept[i]
			}
		}
	}
	return kept
}

// checkCompare checks what Compare returns of two ids, in both orders.
func checkCompare(t *testing.T, a, b api.TieId) {
	t.Helper()
	if got, want := tie.Compare(a, b), order(a, b); got != want {
		t.Fatalf("Compare(%v, %v) = %d, want %d", a, b, got, want)
	}
	if got, want := tie.Compare(b, a), order(b, a); got != want {
		t.Fatalf("Compare(%v, %v) = %d, want %d", b, a, got, want)
	}
}

// checkNewer checks what Newer returns of two heads, in both orders.
func checkNewer(t *testing.T, a, b api.Head) {
	t.Helper()
	if got, want := tie.Newer(a, b), newer(a, b); got != want {
		t.Fatalf("Newer(%v, %v) = %d, want %d", a, b, got, want)
	}
	if got, want := tie.Newer(b, a), newer(b, a); got != want {
		t.Fatalf("Newer(%v, %v) = %d, want %d", b, a, got, want)
	}
}

// checkMerge checks what Merge returns, and that it leaves what it was given.
func checkMerge(t *testing.T, l, m []api.Head) []api.Head {
	t.Helper()
	wasL, wasM := slices.Clone(l), slices.Clone(m)
	got := tie.Merge(l, m)
	if want := merged(l, m); !slices.Equal(got, want) {
		t.Fatalf("Merge(%v, %v) = %v, want %v", l, m, got, want)
	}
	if !slices.Equal(l, wasL) || !slices.Equal(m, wasM) {
		t.Fatalf("Merge left %v, %v of %v, %v", l, m, wasL, wasM)
	}
	return got
}

// valid tells by the layer wire whether an id is valid.
func valid(x api.TieId) bool {
	return wire.Right(api.Packet{Kind: api.KindTire, Heads: []api.Head{head(x, 0, 0)}})
}

// ids is how many valid ids there are.
const ids = 2 * 1000 * 4 * 65536

// nth returns the n-th valid id, from 0 on.
func nth(n int) api.TieId {
	return id(n/65536/4/1000+1, n/65536/4%1000+1, n/65536%4+1, n%65536)
}

// checkAfter checks what After returns of the n-th valid id.
func checkAfter(t *testing.T, n int) {
	t.Helper()
	want := api.TieId{}
	if n+1 < ids {
		want = nth(n + 1)
	}
	if got, is := tie.After(nth(n)); got != want || is != (n+1 < ids) {
		t.Fatalf("After(%v) = %v, %v, want %v, %v", nth(n), got, is, want, n+1 < ids)
	}
}

// noneAfter checks that After returns no id.
func noneAfter(t *testing.T, x api.TieId) {
	t.Helper()
	if got, is := tie.After(x); got != (api.TieId{}) || is {
		t.Fatalf("After(%v) = %v, %v", x, got, is)
	}
}

// randomId returns an id out of many, or of few, not all of them valid.
func randomId(r *rand.Rand) api.TieId {
	switch r.Intn(4) {
	case 0:
		return nth(r.Intn(ids))
	case 1:
		edge := func() int { return edges[r.Intn(len(edges))] }
		return id(edge(), edge(), edge(), edge())
	}
	return id(r.Intn(3), r.Intn(3), r.Intn(3), r.Intn(3))
}

// randomHead returns a head of that id, of which there are few Seqs, and Lifes
// on both sides of the limit.
func randomHead(r *rand.Rand, of api.TieId) api.Head {
	return head(of, r.Intn(3), r.Intn(4)*150+r.Intn(3))
}

// randomHeads returns heads of few ids.
func randomHeads(r *rand.Rand, most int) []api.Head {
	var l []api.Head
	for range r.Intn(most + 1) {
		l = append(l, randomHead(r, id(r.Intn(2), r.Intn(2), r.Intn(2), r.Intn(2))))
	}
	return l
}

// P11.1: Compare

func TestCompare(t *testing.T) {
	for _, x := range []struct {
		a, b api.TieId
		want int
	}{
		{id(1, 1, 1, 0), id(1, 1, 1, 0), 0},
		{id(2, 7, 3, 9), id(2, 7, 3, 9), 0},
		{id(1, 1000, 4, 65535), id(2, 1, 1, 0), -1},
		{id(1, 1, 4, 65535), id(1, 2, 1, 0), -1},
		{id(1, 1, 1, 65535), id(1, 1, 2, 0), -1},
		{id(1, 1, 1, 0), id(1, 1, 1, 1), -1},
		{id(1, 9, 1, 0), id(1, 10, 1, 0), -1},
		{id(1, 2, 1, 10000), id(1, 2, 1, 9), 1},
		{id(0, 0, 0, 0), id(0, 0, 0, -1), 1},
		{id(-1, 5, 5, 5), id(0, 0, 0, 0), -1},
		{id(1, 1, 1, math.MinInt), id(1, 1, 1, math.MaxInt), -1},
		{id(math.MinInt, 0, 0, 0), id(math.MaxInt, 0, 0, 0), -1},
		{id(1, math.MaxInt, 0, 0), id(1, math.MinInt, 9, 9), 1},
	} {
		if got := tie.Compare(x.a, x.b); got != x.want {
			t.Errorf("Compare(%v, %v) = %d, want %d", x.a, x.b, got, x.want)
		}
		if got := tie.Compare(x.b, x.a); got != -x.want {
			t.Errorf("Compare(%v, %v) = %d, want %d", x.b, x.a, got, -x.want)
		}
	}
}

// Of all ids of three small numbers each, each two are compared.
func TestCompareAll(t *testing.T) {
	small := func(n int) api.TieId { return id(n/27, n/9%3, n/3%3, n%3) }
	for i := range 81 {
		for k := range 81 {
			if got := tie.Compare(small(i), small(k)); got != sign(i, k) {
				t.Fatalf("Compare(%v, %v) = %d", small(i), small(k), got)
			}
		}
	}
}

// Numbers are compared as they are, at the edges, too, where their difference is
// none, in each field.
func TestCompareOfEdges(t *testing.T) {
	for _, a := range edges {
		for _, b := range edges {
			checkCompare(t, id(a, 1, 1, 1), id(b, 1, 1, 1))
			checkCompare(t, id(1, a, 1, 1), id(1, b, 1, 1))
			checkCompare(t, id(1, 1, a, 1), id(1, 1, b, 1))
			checkCompare(t, id(1, 1, 1, a), id(1, 1, 1, b))
			checkCompare(t, id(a, b, 1, 1), id(b, a, 1, 1))
			checkCompare(t, id(1, a, b, 1), id(1, b, a, 1))
			checkCompare(t, id(1, 1, a, b), id(1, 1, b, a))
		}
	}
}

// P11.1: Newer

func TestNewer(t *testing.T) {
	for _, x := range []struct{ seqA, lifeA, seqB, lifeB, want int }{
		{0, 0, 0, 0, 0}, {5, 600, 5, 600, 0}, {2, 0, 1, 604800, 1}, {2, 600, 1, 600, 1}, {1, 604800, 2, 0, -1},
		{1, 301, 1, 0, 1}, {1, 300, 1, 0, 0}, {1, 299, 1, 0, 0}, {1, 0, 1, 299, 0}, {1, 0, 1, 300, 0}, {1, 0, 1, 301, -1},
		{7, 604800, 7, 604499, 1}, {7, 604800, 7, 604500, 0}, {7, 604499, 7, 604800, -1}, {7, 604500, 7, 604800, 0},
		{1 << 40, 0, 1<<40 - 1, 604800, 1}, {0, 604800, 1, 0, -1}, {10, 0, 9, 600, 1},
		{-1, 0, -2, 0, 1}, {1, -301, 1, 0, -1}, {1, -300, 1, 0, 0}, {1, -150, 1, 150, 0}, {1, -151, 1, 150, -1},
		{math.MaxInt, 0, math.MinInt, 0, 1}, {math.MinInt, 0, math.MaxInt, 0, -1}, {0, 0, math.MinInt, 0, 1},
		{1, math.MaxInt, 1, math.MinInt, 1}, {1, math.MinInt, 1, math.MaxInt, -1}, {1, math.MaxInt, 1, -1, 1}, {1, math.MinInt, 1, 1, -1},
		{1, math.MaxInt, 1, math.MaxInt - 300, 0}, {1, math.MaxInt, 1, math.MaxInt - 301, 1}, {1, math.MaxInt, 1, math.MaxInt, 0},
		{1, math.MinInt, 1, math.MinInt + 300, 0}, {1, math.MinInt, 1, math.MinInt + 301, -1}, {1, math.MinInt, 1, math.MinInt, 0},
		{1, 1<<32 + 1, 1, 0, 1}, {1, 0, 1, 1 << 32, -1}, {1<<32 + 1, 0, 2, 0, 1},
	} {
		a, b := api.Head{Seq: x.seqA, Life: x.lifeA}, api.Head{Seq: x.seqB, Life: x.lifeB}
		if got := tie.Newer(a, b); got != x.want {
			t.Errorf("Newer(%v, %v) = %d, want %d", a, b, got, x.want)
		}
		if got := tie.Newer(b, a); got != -x.want {
			t.Errorf("Newer(%v, %v) = %d, want %d", b, a, got, -x.want)
		}
	}
}

// Which one is newer hangs on no Id, be they equal or not.
func TestNewerLeavesIds(t *testing.T) {
	r := rand.New(rand.NewSource(1))
	for range 3000 {
		a, b := randomHead(r, randomId(r)), randomHead(r, randomId(r))
		checkNewer(t, a, b)
		a.Id, b.Id = id(2, 2, 2, 2), id(1, 1, 1, 1)
		checkNewer(t, a, b)
		b.Id = a.Id
		checkNewer(t, a, b)
	}
}

func TestNewerOfEdges(t *testing.T) {
	for _, a := range edges {
		for _, b := range edges {
			for seq := range 3 {
				checkNewer(t, api.Head{Seq: seq, Life: a}, api.Head{Seq: 1, Life: b})
				checkNewer(t, api.Head{Seq: a, Life: 301 * seq}, api.Head{Seq: b, Life: 301})
				checkNewer(t, api.Head{Seq: a, Life: b}, api.Head{Seq: b, Life: a})
			}
		}
	}
	for _, a := range edges {
		for by := -303; by <= 303; by++ {
			// Around the greatest and the least number, they wrap round.
			checkNewer(t, api.Head{Life: a}, api.Head{Life: a + by})
		}
	}
}

// P11.2: First and Last

func TestFirstAndLast(t *testing.T) {
	for range 2 {
		if got := tie.First(); got != id(api.South, 1, 1, 0) || got != nth(0) {
			t.Errorf("First = %v", got)
		}
		if got := tie.Last(); got != id(api.North, 1000, 4, 65535) || got != nth(ids-1) {
			t.Errorf("Last = %v", got)
		}
	}
}

// P11.2: After

func TestAfter(t *testing.T) {
	for _, x := range []struct{ a, want api.TieId }{
		{id(1, 1, 1, 0), id(1, 1, 1, 1)},
		{id(1, 1, 1, 65534), id(1, 1, 1, 65535)},
		{id(1, 1, 1, 65535), id(1, 1, 2, 0)},
		{id(1, 1, 3, 65535), id(1, 1, 4, 0)},
		{id(1, 1, 4, 0), id(1, 1, 4, 1)},
		{id(1, 1, 4, 65535), id(1, 2, 1, 0)},
		{id(1, 999, 4, 65535), id(1, 1000, 1, 0)},
		{id(1, 1000, 1, 65535), id(1, 1000, 2, 0)},
		{id(1, 1000, 4, 65534), id(1, 1000, 4, 65535)},
		{id(1, 1000, 4, 65535), id(2, 1, 1, 0)},
		{id(2, 1, 4, 65535), id(2, 2, 1, 0)},
		{id(2, 1000, 3, 65535), id(2, 1000, 4, 0)},
		{id(2, 1000, 4, 65534), id(2, 1000, 4, 65535)},
	} {
		if got, is := tie.After(x.a); got != x.want || !is {
			t.Errorf("After(%v) = %v, %v, want %v", x.a, got, is, x.want)
		}
	}
}

func TestAfterOfLast(t *testing.T) {
	noneAfter(t, tie.Last())
	noneAfter(t, id(2, 1000, 4, 65535))
}

// Each Dir, Origin and Kind leads to the next one.
func TestAfterOfEachNr(t *testing.T) {
	for n := 0; n < ids; n += 65536 {
		for _, nr := range []int{0, 1, 255, 256, 32767, 32768, 65533, 65534, 65535} {
			checkAfter(t, n+nr)
		}
	}
	for nr := range 65536 {
		checkAfter(t, nr)
		checkAfter(t, ids-65536+nr)
	}
}

// An id of which one number is not valid, or several are, has none above it, be
// the others as they may.
func TestAfterOfWrong(t *testing.T) {
	some := []api.TieId{tie.First(), tie.Last(), id(1, 1000, 4, 65535), id(1, 7, 2, 65535), id(2, 500, 4, 3)}
	for _, x := range some {
		for _, n := range append([]int{-2, -7, 6, 7, 1002, 65537, 1<<32 + 2, 1<<32 + 1000}, edges...) {
			for _, y := range []api.TieId{
				id(n, x.Origin, x.Kind, x.Nr), id(x.Dir, n, x.Kind, x.Nr), id(x.Dir, x.Origin, n, x.Nr), id(x.Dir, x.Origin, x.Kind, n),
				id(n, n, x.Kind, x.Nr), id(x.Dir, n, n, x.Nr), id(x.Dir, x.Origin, n, n), id(n, n, n, n),
			} {
				if !valid(y) {
					noneAfter(t, y)
				}
			}
		}
	}
	for _, y := range []api.TieId{{}, id(0, 1, 1, 0), id(3, 1, 1, 0), id(1, 0, 1, 0), id(1, 1001, 1, 0), id(1, 1, 0, 0), id(1, 1, 5, 0), id(1, 1, 1, -1), id(1, 1, 1, 65536)} {
		noneAfter(t, y)
	}
}

// Of all ids of numbers at the edges, After returns one if the layer wire takes
// it for valid, and it is not the last one.
func TestAfterOfEdges(t *testing.T) {
	near := []int{-1, 0, 1, 2, 3, 4, 5, 999, 1000, 1001, 65534, 65535, 65536}
	reached := 0
	for _, dir := range near {
		for _, origin := range near {
			for _, kind := range near {
				for _, nr := range near {
					x := id(dir, origin, kind, nr)
					y, is := tie.After(x)
					if is != (valid(x) && x != tie.Last()) || is != valid(y) {
						t.Fatalf("After(%v) = %v, %v", x, y, is)
					}
					if is {
						reached++
					}
				}
			}
		}
	}
	if want := 2*7*4*11 - 1; reached != want {
		t.Errorf("%d valid ids, want %d", reached, want)
	}
}

// P11.3: Merge

func TestMerge(t *testing.T) {
	a, b, c := id(1, 1, 4, 9), id(1, 2, 1, 0), id(2, 1, 1, 0)
	type heads []api.Head
	for name, x := range map[string]struct{ l, m, want heads }{
		"nothing":               {nil, nil, nil},
		"empty lists":           {heads{}, heads{}, nil},
		"one of l":              {heads{head(a, 1, 5)}, nil, heads{head(a, 1, 5)}},
		"one of m":              {nil, heads{head(a, 1, 5)}, heads{head(a, 1, 5)}},
		"others":                {heads{head(c, 1, 0), head(a, 1, 0)}, heads{head(b, 1, 0)}, heads{head(a, 1, 0), head(b, 1, 0), head(c, 1, 0)}},
		"m is newer":            {heads{head(a, 1, 900)}, heads{head(a, 2, 0)}, heads{head(a, 2, 0)}},
		"l is newer":            {heads{head(a, 2, 0)}, heads{head(a, 1, 900)}, heads{head(a, 2, 0)}},
		"neither is newer":      {heads{head(a, 1, 100)}, heads{head(a, 1, 400)}, heads{head(a, 1, 100)}},
		"m by its Life":         {heads{head(a, 1, 100)}, heads{head(a, 1, 401)}, heads{head(a, 1, 401)}},
		"l by its Life":         {heads{head(a, 1, 401)}, heads{head(a, 1, 100)}, heads{head(a, 1, 401)}},
		"each its own":          {heads{head(a, 1, 0), head(b, 5, 0)}, heads{head(b, 4, 0), head(a, 2, 0)}, heads{head(a, 2, 0), head(b, 5, 0)}},
		"twice in l":            {heads{head(a, 1, 0), head(a, 3, 0), head(a, 2, 0)}, nil, heads{head(a, 3, 0)}},
		"twice in m":            {nil, heads{head(a, 1, 0), head(a, 3, 0), head(a, 2, 0)}, heads{head(a, 3, 0)}},
		"twice in both":         {heads{head(a, 1, 0), head(b, 9, 0), head(a, 2, 0)}, heads{head(b, 8, 0), head(a, 3, 0), head(a, 1, 0)}, heads{head(a, 3, 0), head(b, 9, 0)}},
		"the first of equals":   {heads{head(a, 1, 200), head(a, 1, 0)}, heads{head(a, 1, 500)}, heads{head(a, 1, 200)}},
		"slowly rising":         {heads{head(a, 1, 0), head(a, 1, 200)}, heads{head(a, 1, 400)}, heads{head(a, 1, 400)}},
		"each against the kept": {heads{head(a, 1, 0), head(a, 1, 300)}, heads{head(a, 1, 600), head(a, 1, 900)}, heads{head(a, 1, 600)}},
		"a Life, then a Seq":    {heads{head(a, 1, 0), head(a, 1, 500)}, heads{head(a, 2, 0), head(a, 1, 900)}, heads{head(a, 2, 0)}},
		"not valid":             {heads{head(id(9, -1, 0, 70000), -1, -5)}, heads{{}, head(id(9, -1, 0, 70000), 0, -6)}, heads{{}, head(id(9, -1, 0, 70000), 0, -6)}},
	} {
		t.Run(name, func(t *testing.T) {
			if got := tie.Merge(x.l, x.m); !slices.Equal(got, x.want) {
				t.Errorf("Merge(%v, %v) = %v, want %v", x.l, x.m, got, x.want)
			}
			checkMerge(t, x.l, x.m)
		})
	}
}

// All of a head is kept, and nothing of one that it replaces.
func TestMergeKeepsHeads(t *testing.T) {
	a := id(2, 3, 4, 5)
	for _, x := range [][2]api.Head{
		{head(a, math.MaxInt, math.MinInt), head(a, math.MinInt, math.MaxInt)},
		{head(a, 5, math.MaxInt), head(a, 5, math.MinInt)},
		{head(a, 5, 0), head(a, -5, 900)},
	} {
		for _, l := range [][]api.Head{{x[0], x[1]}, {x[1], x[0]}} {
			if got := checkMerge(t, l[:1], l[1:]); len(got) != 1 || got[0] != x[0] {
				t.Errorf("Merge of %v = %v", l, got)
			}
		}
	}
}

// In whatever order many heads are, they ascend in what is returned, whenever it
// is returned.
func TestMergeSorts(t *testing.T) {
	r := rand.New(rand.NewSource(2))
	var l []api.Head
	for _, dir := range []int{2, 1, 3} {
		for _, origin := range []int{1000, 1, 9, 10, -1} {
			for _, kind := range []int{4, 1, 2} {
				for _, nr := range []int{65535, 0, 9, 10, math.MinInt, math.MaxInt} {
					l = append(l, head(id(dir, origin, kind, nr), 7, 60))
				}
			}
		}
	}
	want := merged(l, nil)
	for range 50 {
		r.Shuffle(len(l), func(i, k int) { l[i], l[k] = l[k], l[i] })
		n := r.Intn(len(l) + 1)
		if got := tie.Merge(l[:n], l[n:]); !slices.Equal(got, want) {
			t.Fatalf("Merge(%v, %v) = %v", l[:n], l[n:], got)
		}
	}
}

func TestMergeOfRandom(t *testing.T) {
	r := rand.New(rand.NewSource(3))
	for range 5000 {
		checkMerge(t, randomHeads(r, 12), randomHeads(r, 12))
	}
	for range 200 {
		var l []api.Head
		for range r.Intn(60) {
			l = append(l, randomHead(r, randomId(r)))
		}
		n := r.Intn(len(l) + 1)
		checkMerge(t, l[:n], l[n:])
	}
}

// Merging as many heads as a database may hold many times over ends.
func TestMergeOfMany(t *testing.T) {
	var l []api.Head
	for n := range 100000 {
		l = append(l, head(nth(n*7919%100000*5000), n%5, 0))
	}
	got := tie.Merge(l, l)
	if len(got) != len(l) {
		t.Fatalf("%d heads of %d", len(got), len(l))
	}
	for i, h := range got {
		if h.Id != nth(i*5000) {
			t.Fatalf("the %d-th of them is %v", i, h)
		}
	}
}

// R3: what is returned is new, and what was given is left, behind its end, too.
func TestMergeIsNew(t *testing.T) {
	a, b, c := head(id(1, 1, 1, 0), 1, 0), head(id(1, 2, 1, 0), 1, 0), head(id(1, 3, 1, 0), 1, 0)
	l, m := []api.Head{a, b, c}, []api.Head{c, b, a}
	for _, x := range []struct{ l, m, want []api.Head }{
		{l[:1], nil, []api.Head{a}}, {nil, m[:1], []api.Head{c}}, {l[:1], m[:1], []api.Head{a, c}},
		{l[:1], m[:2], []api.Head{a, b, c}}, {l[:1:1], m[:2:2], []api.Head{a, b, c}}, {l, l, []api.Head{a, b, c}}, {l, l[1:], []api.Head{a, b, c}},
	} {
		got := checkMerge(t, x.l, x.m)
		if !slices.Equal(got, x.want) {
			t.Errorf("Merge(%v, %v) = %v", x.l, x.m, got)
		}
		clear(got[:cap(got)])
		if !slices.Equal(l, []api.Head{a, b, c}) || !slices.Equal(m, []api.Head{c, b, a}) {
			t.Fatalf("they are %v, %v now", l, m)
		}
		if again := tie.Merge(x.l, x.m); !slices.Equal(again, x.want) {
			t.Errorf("Merge(%v, %v) = %v now", x.l, x.m, again)
		}
	}
	got := tie.Merge(l, nil)
	clear(l)
	if !slices.Equal(got, []api.Head{a, b, c}) {
		t.Errorf("it is %v now", got)
	}
}

// P11.4

// Each two ids are equal, or one of them is less, and what is less than a lesser
// one is less.
func TestCompareIsTotal(t *testing.T) {
	r := rand.New(rand.NewSource(4))
	for range 50000 {
		a, b, c := randomId(r), randomId(r), randomId(r)
		checkCompare(t, a, b)
		if tie.Compare(a, a) != 0 || (tie.Compare(a, b) == 0) != (a == b) || tie.Compare(a, b) != -tie.Compare(b, a) {
			t.Fatalf("Compare(%v, %v) = %d", a, b, tie.Compare(a, b))
		}
		if tie.Compare(a, b) <= 0 && tie.Compare(b, c) <= 0 && tie.Compare(a, c) > 0 {
			t.Fatalf("%v, %v and %v", a, b, c)
		}
	}
}

// Between an id and the one after it there is no valid one, and no valid one is
// below the first one or above the last one.
func TestAfterIsSuccessor(t *testing.T) {
	r := rand.New(rand.NewSource(5))
	for range 50000 {
		n, k := r.Intn(ids), r.Intn(ids)
		if r.Intn(2) == 0 {
			k = min(max(0, n+r.Intn(5)-2), ids-1)
		}
		checkAfter(t, n)
		a, x := nth(n), nth(k)
		if tie.Compare(tie.First(), x) > 0 || tie.Compare(x, tie.Last()) > 0 {
			t.Fatalf("%v", x)
		}
		b, is := tie.After(a)
		if !is {
			continue
		}
		if tie.Compare(a, b) != -1 || !valid(b) || tie.Compare(a, x) < 0 && tie.Compare(x, b) < 0 {
			t.Fatalf("After(%v) = %v, and %v", a, b, x)
		}
	}
	for range 50000 {
		x := randomId(r)
		if y, is := tie.After(x); is != (valid(x) && x != tie.Last()) || is && order(x, y) >= 0 {
			t.Fatalf("After(%v) = %v, %v", x, y, is)
		}
	}
}

// From the first id, After leads through all of some kinds, and from near the
// last one to it.
func TestAfterLeadsThrough(t *testing.T) {
	for _, from := range []int{0, 4*1000*65536 - 70000, ids - 200000} {
		x, is := nth(from), true
		for n := from; n < min(from+300000, ids); n++ {
			if !is || x != nth(n) {
				t.Fatalf("the %d-th one is %v, %v", n, x, is)
			}
			x, is = tie.After(x)
		}
	}
}

func TestNewerIsAntisymmetric(t *testing.T) {
	r := rand.New(rand.NewSource(6))
	reached := map[int]int{}
	for range 20000 {
		edge := func() int { return edges[r.Intn(len(edges))] }
		for _, x := range [][2]api.Head{
			{randomHead(r, api.TieId{}), randomHead(r, api.TieId{})},
			{head(api.TieId{}, edge(), edge()), head(api.TieId{}, edge(), edge())},
		} {
			checkNewer(t, x[0], x[1])
			if tie.Newer(x[0], x[1]) != -tie.Newer(x[1], x[0]) || tie.Newer(x[0], x[0]) != 0 {
				t.Fatalf("%v and %v", x[0], x[1])
			}
			reached[tie.Newer(x[0], x[1])]++
		}
	}
	for n := -1; n <= 1; n++ {
		if reached[n] < 1000 {
			t.Errorf("Newer = %d %d times alone", n, reached[n])
		}
	}
}

// What Merge returned is what it returns of that with itself or with nothing.
func TestMergeAgain(t *testing.T) {
	r := rand.New(rand.NewSource(7))
	for range 2000 {
		l := tie.Merge(randomHeads(r, 20), randomHeads(r, 20))
		for _, x := range [][2][]api.Head{{l, l}, {l, nil}, {nil, l}, {l, {}}, {{}, l}} {
			if got := tie.Merge(x[0], x[1]); !slices.Equal(got, l) {
				t.Fatalf("Merge(%v, %v) = %v", x[0], x[1], got)
			}
		}
	}
}

// FuzzTwo holds two ids and heads, valid or not, against the definition.
func FuzzTwo(f *testing.F) {
	f.Add(1, 1, 1, 65535, 5, 600, 1, 1, 2, 0, 5, 299)
	f.Add(2, 1000, 4, 65535, 1<<40, 604800, 2, 1000, 4, 65535, 1<<40, 604500)
	f.Add(1, 1000, 4, 65535, math.MinInt, math.MinInt, 2, 1, 1, 0, math.MaxInt, math.MaxInt)
	f.Fuzz(func(t *testing.T, dirA, originA, kindA, nrA, seqA, lifeA, dirB, originB, kindB, nrB, seqB, lifeB int) {
		a, b := head(id(dirA, originA, kindA, nrA), seqA, lifeA), head(id(dirB, originB, kindB, nrB), seqB, lifeB)
		checkCompare(t, a.Id, b.Id)
		checkNewer(t, a, b)
		for _, x := range []api.TieId{a.Id, b.Id} {
			y, is := tie.After(x)
			if is != (valid(x) && x != tie.Last()) || is != valid(y) || !is && y != (api.TieId{}) {
				t.Fatalf("After(%v) = %v, %v", x, y, is)
			}
			if is && (order(x, y) >= 0 || valid(b.Id) && order(x, b.Id) < 0 && order(b.Id, y) < 0) {
				t.Fatalf("After(%v) = %v, and %v", x, y, b.Id)
			}
		}
		b.Id = a.Id
		checkMerge(t, []api.Head{a}, []api.Head{b})
		checkMerge(t, []api.Head{b}, []api.Head{a})
	})
}

// FuzzMerge checks what Merge returns of heads that are read from bytes, three a
// head.
func FuzzMerge(f *testing.F) {
	f.Add([]byte{1, 1, 0, 1, 1, 250, 2, 1, 0}, []byte{1, 1, 100, 2, 2, 0})
	f.Add([]byte{7, 1, 200, 7, 1, 0}, []byte{7, 1, 150, 6, 1, 0, 7, 2, 1})
	f.Fuzz(func(t *testing.T, b, c []byte) {
		heads := func(b []byte) []api.Head {
			var l []api.Head
			for x := range slices.Chunk(b[:min(len(b), 300)], 3) {
				if len(x) == 3 {
					n := int(x[0])
					l = append(l, head(id(n&3, n>>2&3, n>>4&3, n>>6&3), int(x[1]), 4*int(int8(x[2]))))
				}
			}
			return l
		}
		l := checkMerge(t, heads(b), heads(c))
		checkMerge(t, l, heads(c))
		if got := tie.Merge(l, l); !slices.Equal(got, l) {
			t.Fatalf("Merge of %v = %v", l, got)
		}
	})
}
