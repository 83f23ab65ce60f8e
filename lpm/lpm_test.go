package lpm_test

import (
	"math"
	"math/rand"
	"runtime"
	"slices"
	"testing"

	"selvage/api"
	"selvage/lpm"
	"selvage/prefix"
)

// wrongBits are numbers of bits that no prefix has, those among them that are
// taken for right ones if they are made shorter.
var wrongBits = []int{-1, -2, -8, -31, -32, -33, 33, 34, 40, 63, 64, 255, 256, 264, 1 << 32, 1<<32 + 8,
	math.MaxInt32, math.MinInt32, math.MaxInt, math.MinInt}

// edges are addresses at the edges of numbers and of bytes.
var edges = []uint32{0, 1, 2, 255, 256, 1 << 16, 10 << 24, 10<<24 + 1, 1<<31 - 1, 1 << 31, 1<<31 + 1, 1<<32 - 2, 1<<32 - 1}

// p returns the prefix of four bytes and that many bits, valid or not.
func p(a, b, c, d byte, bits int) api.Prefix {
	return api.Prefix{Net: address(a, b, c, d), Bits: bits}
}

// address returns the address of four bytes.
func address(a, b, c, d byte) uint32 {
	return uint32(a)<<24 | uint32(b)<<16 | uint32(c)<<8 | uint32(d)
}

// cut returns the prefix with that number of bits that contains an address.
func cut(a uint32, bits int) api.Prefix {
	return api.Prefix{Net: uint32(uint64(a) >> (32 - bits) << (32 - bits)), Bits: bits}
}

// valid tells by what a prefix is whether it is a valid one.
func valid(q api.Prefix) bool {
	return q.Bits >= 0 && q.Bits <= 32 && cut(q.Net, q.Bits) == q
}

// wrong are prefixes that are not valid.
func wrong() []api.Prefix {
	l := []api.Prefix{p(10, 0, 0, 1, 8), p(10, 1, 0, 0, 8), p(10, 128, 0, 0, 8), p(0, 0, 0, 1, 31), p(128, 0, 0, 0, 0),
		p(0, 0, 0, 1, 0), p(255, 255, 255, 255, 31)}
	for _, bits := range wrongBits {
		l = append(l, p(0, 0, 0, 0, bits), p(10, 0, 0, 0, bits), p(255, 255, 255, 255, bits))
	}
	return l
}

// made returns an empty table.
func made(t *testing.T, room int) *lpm.Table {
	t.Helper()
	x, e := lpm.New(room)
	if e != api.OK || x == nil {
		t.Fatalf("New(%d) = %v, %v", room, x, e)
	}
	return x
}

// put puts a prefix that there is room for.
func put(t *testing.T, x *lpm.Table, q api.Prefix, n int) {
	t.Helper()
	if e := x.Put(q, n); e != api.OK {
		t.Fatalf("Put(%v, %d) = %v", q, n, e)
	}
}

// model is what should be in a table: a list in no order, which is searched
// from its beginning to its end.
type model []pair

type pair struct {
	p api.Prefix
	n int
}

// at returns the place of a prefix in the list, or -1.
func (m model) at(q api.Prefix) int {
	return slices.IndexFunc(m, func(x pair) bool { return x.p == q })
}

// put returns the list with a prefix set.
func (m model) put(q api.Prefix, n int) model {
	return append(m.drop(q), pair{q, n})
}

// drop returns the list without a prefix.
func (m model) drop(q api.Prefix) model {
	return slices.DeleteFunc(slices.Clone(m), func(x pair) bool { return x.p == q })
}

// find returns what Find should.
func (m model) find(a uint32) (api.Prefix, int, bool) {
	best, is := pair{p: api.Prefix{Bits: -1}}, false
	for _, x := range m {
		if cut(a, x.p.Bits) == x.p && x.p.Bits > best.p.Bits {
			best, is = x, true
		}
	}
	if !is {
		return api.Prefix{}, 0, false
	}
	return best.p, best.n, true
}

// all returns what All should.
func (m model) all() []api.Prefix {
	var l []api.Prefix
	for _, x := range m {
		l = append(l, x.p)
	}
	slices.SortFunc(l, func(a, b api.Prefix) int {
		if a.Net != b.Net {
			if a.Net < b.Net {
				return -1
			}
			return 1
		}
		return a.Bits - b.Bits
	})
	return l
}

// same checks that a table is what the model is, asked for those addresses, and
// for those at the ends of all prefixes.
func same(t *testing.T, x *lpm.Table, m model, addresses ...uint32) {
	t.Helper()
	if got, want := x.All(), m.all(); !slices.Equal(got, want) || x.Len() != len(want) {
		t.Fatalf("All = %v, Len = %d, want %v", got, x.Len(), want)
	}
	for _, y := range m {
		if n, is := x.Get(y.p); n != y.n || !is {
			t.Fatalf("Get(%v) = %d, %v, want %d", y.p, n, is, y.n)
		}
		last := y.p.Net | uint32(uint64(math.MaxUint32)>>y.p.Bits)
		for _, a := range []uint32{y.p.Net, last, y.p.Net - 1, last + 1} {
			finds(t, x, m, a)
		}
	}
	for _, a := range addresses {
		finds(t, x, m, a)
	}
}

// finds checks that Find returns what it should, and P7.3's words of it.
func finds(t *testing.T, x *lpm.Table, m model, a uint32) {
	t.Helper()
	q, n, is := x.Find(a)
	if wantQ, wantN, want := m.find(a); q != wantQ || n != wantN || is != want {
		t.Fatalf("Find(%d) = %v, %d, %v, want %v, %d, %v of %v", a, q, n, is, wantQ, wantN, want, m)
	}
	if got, in := x.Get(q); is && (!in || got != n || !prefix.In(q, a)) {
		t.Fatalf("Find(%d) = %v, %d: Get = %d, %v, In = %v", a, q, n, got, in, prefix.In(q, a))
	}
}

// lacks checks that a prefix is not in a table.
func lacks(t *testing.T, x *lpm.Table, q api.Prefix) {
	t.Helper()
	if n, is := x.Get(q); n != 0 || is {
		t.Fatalf("Get(%v) = %d, %v, but it is not there", q, n, is)
	}
	if x.Drop(q) {
		t.Fatalf("Drop(%v) = true, but it is not there", q)
	}
}

// P7.1: New

func TestNew(t *testing.T) {
	for _, room := range []int{1, 2, 3, 33, 4095, 4096} {
		same(t, made(t, room), nil, edges...)
	}
}

func TestNewOfWrongRoom(t *testing.T) {
	for _, room := range []int{0, -1, -4096, 4097, 8192, 1 << 16, 1<<16 + 1, 1 << 32, 1<<32 + 1, 1<<32 + 4096,
		math.MaxInt32, math.MinInt32, math.MaxInt, math.MinInt, math.MinInt + 1} {
		if x, e := lpm.New(room); e != api.ErrArg || x != nil {
			t.Errorf("New(%d) = %v, %v, want ErrArg", room, x, e)
		}
	}
}

func TestEmpty(t *testing.T) {
	x := made(t, 4)
	for _, a := range edges {
		for bits := range 33 {
			lacks(t, x, cut(a, bits))
		}
	}
	same(t, x, nil, edges...)
}

// R4: a table is its own.
func TestTwoTables(t *testing.T) {
	x, y := made(t, 1), made(t, 1)
	put(t, x, p(10, 0, 0, 0, 8), 1)
	same(t, y, nil, edges...)
	put(t, y, p(0, 0, 0, 0, 0), 2)
	same(t, x, model{{p(10, 0, 0, 0, 8), 1}}, edges...)
	same(t, y, model{{p(0, 0, 0, 0, 0), 2}}, edges...)
}

// P7.1: Put and Get

func TestPut(t *testing.T) {
	x := made(t, 64)
	var m model
	for i, q := range []api.Prefix{p(10, 0, 0, 0, 8), p(10, 1, 0, 0, 16), p(0, 0, 0, 0, 0), p(10, 0, 0, 0, 32), p(10, 0, 0, 0, 9),
		p(10, 128, 0, 0, 9), p(255, 255, 255, 255, 32), p(255, 255, 255, 254, 32), p(255, 255, 255, 254, 31), p(0, 0, 0, 0, 32),
		p(0, 0, 0, 0, 1), p(128, 0, 0, 0, 1), p(127, 0, 0, 0, 8), p(128, 0, 0, 0, 8), p(0, 0, 0, 1, 32)} {
		lacks(t, x, q)
		put(t, x, q, i-3)
		m = m.put(q, i-3)
		same(t, x, m, edges...)
	}
}

// A number may be any, and is found as it is.
func TestPutOfNumbers(t *testing.T) {
	x := made(t, 1)
	q := p(10, 0, 0, 0, 8)
	for _, n := range []int{0, 1, -1, 255, 256, 1 << 31, 1 << 32, 1<<32 + 1, -1 << 31, -1 << 32, math.MaxInt, math.MinInt, 0} {
		put(t, x, q, n)
		same(t, x, model{{q, n}}, q.Net+7)
	}
}

// A prefix that is there gets another number, and no other prefix does.
func TestPutAgain(t *testing.T) {
	x := made(t, 3)
	m := model{{p(10, 0, 0, 0, 8), 1}, {p(10, 0, 0, 0, 16), 2}, {p(0, 0, 0, 0, 0), 3}}
	for _, y := range m {
		put(t, x, y.p, y.n)
	}
	for i, y := range slices.Clone(m) {
		put(t, x, y.p, 10+i)
		m = m.put(y.p, 10+i)
		same(t, x, m, edges...)
	}
}

func TestPutOfWrongPrefixes(t *testing.T) {
	x := made(t, 4)
	var m model
	for range 3 {
		for _, q := range wrong() {
			if e := x.Put(q, 9); e != api.ErrArg {
				t.Errorf("Put(%v) = %v, want ErrArg", q, e)
			}
		}
		same(t, x, m, edges...)
		q := cut(10<<24, 8*len(m))
		put(t, x, q, 5)
		m = m.put(q, 5)
	}
}

// Neither is a prefix that is not valid in the table if there is one of the
// same leading bits.
func TestGetAndDropOfWrongPrefixes(t *testing.T) {
	x := made(t, 40)
	var m model
	for bits := range 33 {
		m = m.put(cut(10<<24, bits), bits+1)
		put(t, x, cut(10<<24, bits), bits+1)
	}
	for _, q := range []api.Prefix{p(0, 0, 0, 0, 32), p(255, 255, 255, 255, 32), p(255, 255, 255, 254, 31)} {
		m = m.put(q, 77)
		put(t, x, q, 77)
	}
	for _, q := range wrong() {
		lacks(t, x, q)
	}
	same(t, x, m, edges...)
}

func TestFull(t *testing.T) {
	x := made(t, 2)
	a, b, c := p(10, 0, 0, 0, 8), p(10, 1, 0, 0, 16), p(0, 0, 0, 0, 0)
	put(t, x, a, 1)
	put(t, x, b, 2)
	full := func(m model) {
		t.Helper()
		for _, q := range []api.Prefix{c, p(10, 0, 0, 0, 16), p(10, 0, 0, 0, 7), p(10, 1, 0, 0, 32), p(0, 0, 0, 0, 32)} {
			if e := x.Put(q, 4); e != api.ErrFull {
				t.Errorf("Put(%v) = %v, want ErrFull", q, e)
			}
			lacks(t, x, q)
		}
		for _, q := range wrong() {
			if e := x.Put(q, 4); e != api.ErrArg {
				t.Errorf("Put(%v) = %v, want ErrArg", q, e)
			}
		}
		same(t, x, m, edges...)
	}
	full(model{{a, 1}, {b, 2}})
	put(t, x, a, 5)
	full(model{{a, 5}, {b, 2}})
	if !x.Drop(b) {
		t.Fatal("Drop = false")
	}
	put(t, x, p(11, 0, 0, 0, 8), 6)
	full(model{{a, 5}, {p(11, 0, 0, 0, 8), 6}})
	// What is not there when it is dropped makes no room.
	if x.Drop(b) || x.Drop(c) {
		t.Fatal("Drop = true")
	}
	full(model{{a, 5}, {p(11, 0, 0, 0, 8), 6}})
}

// There is room for as many prefixes as New was told, and for no more.
func TestRoom(t *testing.T) {
	r := rand.New(rand.NewSource(1))
	for _, room := range []int{1, 2, 3, 31, 32, 33, 34, 1000, 4095, 4096} {
		x := made(t, room)
		var m model
		for len(m) < room {
			q := cut(r.Uint32(), r.Intn(33))
			if m.at(q) < 0 {
				m = append(m, pair{q, r.Int()})
				put(t, x, q, m[len(m)-1].n)
			}
		}
		for range 100 {
			q := cut(r.Uint32(), r.Intn(33))
			want := api.ErrFull
			if at := m.at(q); at >= 0 {
				m[at].n, want = 8, api.OK
			}
			if e := x.Put(q, 8); e != want {
				t.Fatalf("Put(%v) of room for %d = %v, want %v", q, room, e, want)
			}
		}
		if room < 1000 {
			same(t, x, m, edges...)
		} else if got := x.All(); !slices.Equal(got, m.all()) || x.Len() != room {
			t.Fatalf("%d prefixes of room for %d", x.Len(), room)
		}
	}
}

// P7.1: Drop

func TestDrop(t *testing.T) {
	x := made(t, 8)
	m := model{{p(10, 0, 0, 0, 8), 1}, {p(10, 0, 0, 0, 16), 2}, {p(0, 0, 0, 0, 0), 3}, {p(10, 0, 0, 0, 32), 4}, {p(10, 0, 0, 1, 32), 5}}
	for _, y := range m {
		put(t, x, y.p, y.n)
	}
	for _, y := range slices.Clone(m) {
		if !x.Drop(y.p) {
			t.Fatalf("Drop(%v) = false", y.p)
		}
		lacks(t, x, y.p)
		m = m.drop(y.p)
		same(t, x, m, edges...)
	}
}

// A place on the way to a prefix, or behind it, is not that prefix.
func TestDropOfPlaces(t *testing.T) {
	x := made(t, 1)
	q := p(10, 1, 2, 0, 24)
	put(t, x, q, 1)
	for bits := range 33 {
		for _, other := range []api.Prefix{cut(q.Net, bits), cut(q.Net|255, bits), cut(^q.Net, bits)} {
			if other != q {
				lacks(t, x, other)
			}
		}
	}
	same(t, x, model{{q, 1}}, edges...)
}

// No more is kept than is needed: of what was dropped, and of what there was no
// room for, nothing is left.
func TestDropFrees(t *testing.T) {
	x := made(t, 2)
	put(t, x, p(0, 0, 0, 0, 0), 1)
	heap := func() uint64 {
		var s runtime.MemStats
		runtime.GC()
		runtime.ReadMemStats(&s)
		return s.HeapAlloc
	}
	before := heap()
	for i := range uint32(50000) {
		a := i * 2654435761
		if x.Put(cut(a, 32), 1) != api.OK || x.Put(cut(^a, 31), 1) != api.ErrFull || !x.Drop(cut(a, 32)) {
			t.Fatalf("%d could not be put, or not be dropped", a)
		}
	}
	if after := heap(); after > before+1<<20 {
		t.Errorf("%d bytes are kept after all was dropped, %d before", after, before)
	}
	same(t, x, model{{p(0, 0, 0, 0, 0), 1}}, edges...)
}

// P7.2: Find

func TestFind(t *testing.T) {
	x := made(t, 4096)
	for _, a := range edges {
		finds(t, x, nil, a)
	}
	put(t, x, p(10, 0, 0, 0, 8), 1)
	put(t, x, p(10, 1, 0, 0, 16), 2)
	for _, y := range []struct {
		a  uint32
		p  api.Prefix
		n  int
		is bool
	}{
		{address(10, 1, 2, 3), p(10, 1, 0, 0, 16), 2, true},
		{address(10, 1, 0, 0), p(10, 1, 0, 0, 16), 2, true},
		{address(10, 1, 255, 255), p(10, 1, 0, 0, 16), 2, true},
		{address(10, 0, 255, 255), p(10, 0, 0, 0, 8), 1, true},
		{address(10, 2, 0, 0), p(10, 0, 0, 0, 8), 1, true},
		{address(10, 0, 0, 0), p(10, 0, 0, 0, 8), 1, true},
		{address(10, 255, 255, 255), p(10, 0, 0, 0, 8), 1, true},
		{address(9, 255, 255, 255), api.Prefix{}, 0, false},
		{address(11, 0, 0, 0), api.Prefix{}, 0, false},
		{0, api.Prefix{}, 0, false},
		{1<<32 - 1, api.Prefix{}, 0, false},
	} {
		if q, n, is := x.Find(y.a); q != y.p || n != y.n || is != y.is {
			t.Errorf("Find(%d) = %v, %d, %v, want %v, %d, %v", y.a, q, n, is, y.p, y.n, y.is)
		}
	}
}

// The prefix of no bits is found for each address, and those of 32 for one each.
func TestFindOfEdges(t *testing.T) {
	x := made(t, 64)
	var m model
	for i, a := range edges {
		q := cut(a, 32)
		put(t, x, q, 100+i)
		m = m.put(q, 100+i)
		same(t, x, m, edges...)
	}
	put(t, x, api.Prefix{}, 0)
	m = m.put(api.Prefix{}, 0)
	same(t, x, m, edges...)
	r := rand.New(rand.NewSource(2))
	for range 1000 {
		finds(t, x, m, r.Uint32())
	}
}

// All 33 prefixes of one address: they are found one after the other.
func TestFindOfAllBits(t *testing.T) {
	r := rand.New(rand.NewSource(3))
	for _, a := range edges {
		x := made(t, 33)
		var m model
		for _, bits := range r.Perm(33) {
			put(t, x, cut(a, bits), bits)
			m = m.put(cut(a, bits), bits)
		}
		for i := range 32 {
			// This one differs from a in the i-th bit, which no more bits are common with.
			if q, n, is := x.Find(a ^ 1<<(31-i)); q != cut(a, i) || n != i || !is {
				t.Fatalf("Find of %d with bit %d turned = %v, %d, %v", a, i, q, n, is)
			}
		}
		for bits := 32; bits >= 0; bits-- {
			finds(t, x, m, a)
			if q, n, is := x.Find(a); q != cut(a, bits) || n != bits || !is {
				t.Fatalf("Find(%d) = %v, %d, %v, want of %d bits", a, q, n, is, bits)
			}
			if !x.Drop(cut(a, bits)) {
				t.Fatalf("Drop of %d bits = false", bits)
			}
			m = m.drop(cut(a, bits))
		}
		same(t, x, nil, edges...)
	}
}

// P7.2: All and Len

func TestAll(t *testing.T) {
	want := []api.Prefix{p(0, 0, 0, 0, 0), p(0, 0, 0, 0, 1), p(0, 0, 0, 0, 32), p(0, 0, 0, 1, 32), p(9, 255, 255, 255, 32), p(10, 0, 0, 0, 8),
		p(10, 0, 0, 0, 9), p(10, 0, 0, 0, 32), p(10, 128, 0, 0, 9), p(127, 255, 255, 255, 32), p(128, 0, 0, 0, 1), p(128, 0, 0, 0, 8),
		p(255, 255, 255, 254, 31), p(255, 255, 255, 254, 32), p(255, 255, 255, 255, 32)}
	if !slices.IsSortedFunc(want, prefix.Compare) {
		t.Fatal("the test's own prefixes do not ascend")
	}
	r := rand.New(rand.NewSource(4))
	for range 100 {
		x := made(t, len(want))
		for i, at := range r.Perm(len(want)) {
			if x.Len() != i {
				t.Fatalf("Len = %d, want %d", x.Len(), i)
			}
			put(t, x, want[at], at)
		}
		if got := x.All(); !slices.Equal(got, want) {
			t.Fatalf("All = %v, want %v", got, want)
		}
	}
}

// R3: what All returns is the caller's.
func TestAllIsTheCallers(t *testing.T) {
	x := made(t, 8)
	m := model{{p(10, 0, 0, 0, 8), 1}, {p(10, 1, 0, 0, 16), 2}, {p(11, 0, 0, 0, 8), 3}}
	for _, y := range m {
		put(t, x, y.p, y.n)
	}
	first := x.All()
	was := slices.Clone(first)
	second := x.All()
	clear(second)
	_ = append(first[:1], p(1, 1, 1, 1, 32))
	same(t, x, m, edges...)
	first = x.All()
	x.Drop(m[0].p)
	put(t, x, p(1, 0, 0, 0, 8), 4)
	if !slices.Equal(first, was) {
		t.Errorf("what All returned is now %v, it was %v", first, was)
	}
}

// P7.3

// subtree returns that prefix and those within it, down to so many more bits.
func subtree(q api.Prefix, depth int) []api.Prefix {
	l := []api.Prefix{q}
	if depth > 0 {
		l = append(l, subtree(api.Prefix{Net: q.Net, Bits: q.Bits + 1}, depth-1)...)
		l = append(l, subtree(api.Prefix{Net: q.Net | 1<<(31-q.Bits), Bits: q.Bits + 1}, depth-1)...)
	}
	return l
}

// Of all sets of the fifteen prefixes of a tree of three more bits, at both ends
// of what a prefix may be and in between, Find returns what it should; and
// it does so after one more was put, and dropped again.
func TestAllSets(t *testing.T) {
	for _, root := range []api.Prefix{p(0, 0, 0, 0, 0), p(10, 20, 0, 0, 15), p(255, 255, 255, 248, 29)} {
		tree := subtree(root, 3)
		r := rand.New(rand.NewSource(5))
		for set := range 1 << len(tree) {
			x := made(t, len(tree))
			var m model
			for _, i := range r.Perm(len(tree)) {
				if set>>i&1 == 1 {
					put(t, x, tree[i], set+i)
					m = append(m, pair{tree[i], set + i})
				}
			}
			same(t, x, m, root.Net)
			i := r.Intn(len(tree))
			if set>>i&1 == 0 {
				put(t, x, tree[i], -1)
				same(t, x, m.put(tree[i], -1), tree[i].Net)
				if !x.Drop(tree[i]) {
					t.Fatalf("Drop(%v) = false", tree[i])
				}
				same(t, x, m, tree[i].Net)
			}
			lacks(t, x, api.Prefix{Net: root.Net, Bits: 33})
		}
	}
}

// What was put last and is dropped leaves all else as it was.
func TestDropUndoesPut(t *testing.T) {
	r := rand.New(rand.NewSource(6))
	for range 200 {
		x := made(t, 100)
		var m model
		base := r.Uint32()
		near := func() api.Prefix { return cut(base^r.Uint32()>>r.Intn(33), r.Intn(33)) }
		for range r.Intn(60) {
			q := near()
			put(t, x, q, r.Int())
			n, _ := x.Get(q)
			m = m.put(q, n)
		}
		q := near()
		if m.at(q) >= 0 {
			continue
		}
		put(t, x, q, 1)
		finds(t, x, m.put(q, 1), q.Net)
		if !x.Drop(q) {
			t.Fatalf("Drop(%v) = false", q)
		}
		lacks(t, x, q)
		same(t, x, m, append(edges, q.Net)...)
	}
}

// step does with a table what a number says, and returns what its model then is.
func step(t *testing.T, x *lpm.Table, m model, room, what int, q api.Prefix, n int) model {
	t.Helper()
	at := m.at(q)
	if what%3 == 0 {
		if got := x.Drop(q); got != (at >= 0) {
			t.Fatalf("Drop(%v) = %v of %v", q, got, m)
		}
		return m.drop(q)
	}
	want := api.OK
	if !valid(q) {
		want = api.ErrArg
	} else if at < 0 && len(m) == room {
		want = api.ErrFull
	}
	if got := x.Put(q, n); got != want {
		t.Fatalf("Put(%v, %d) = %v, want %v, of %v", q, n, got, want, m)
	}
	if want == api.OK {
		m = m.put(q, n)
	}
	return m
}

// A table does for a long time what its model does.
func TestManySteps(t *testing.T) {
	r := rand.New(rand.NewSource(7))
	for _, room := range []int{1, 2, 5, 30, 200} {
		x := made(t, room)
		var m model
		tree := subtree(p(10, 0, 0, 0, 10), 6)
		for i := range 4000 {
			q := tree[r.Intn(len(tree))]
			switch r.Intn(8) {
			case 0:
				q = cut(r.Uint32(), r.Intn(33))
			case 1:
				q.Bits += r.Intn(5) - 2
			}
			m = step(t, x, m, room, r.Intn(6)*(i/2000+1), q, r.Int())
			finds(t, x, m, q.Net)
			if i%50 == 0 {
				same(t, x, m, edges...)
			}
		}
	}
}

// FuzzSteps searches for steps after which a table is not what its model is: of
// each five bytes, a prefix is put or dropped.
func FuzzSteps(f *testing.F) {
	f.Add(2, []byte{10, 0, 0, 0, 8, 10, 1, 0, 0, 16, 10, 0, 0, 0, 8 + 128, 0, 0, 0, 0, 0})
	f.Add(9, []byte{0, 0, 0, 0, 0, 255, 255, 255, 255, 32, 1, 2, 3, 4, 33, 0, 0, 0, 0, 128})
	f.Add(4097, []byte{})
	f.Fuzz(func(t *testing.T, room int, b []byte) {
		x, e := lpm.New(room)
		if (e == api.OK) != (1 <= room && room <= 4096) || (x == nil) != (e != api.OK) {
			t.Fatalf("New(%d) = %v, %v", room, x, e)
		}
		if x == nil {
			return
		}
		var m model
		for c := range slices.Chunk(b[:min(len(b), 500)], 5) {
			if len(c) < 5 {
				break
			}
			q := p(c[0], c[1], c[2], c[3], int(c[4]%64))
			if c[4]&64 != 0 {
				q = cut(q.Net, q.Bits%33)
			}
			m = step(t, x, m, room, 1-int(c[4]>>7), q, int(int8(c[3])))
			finds(t, x, m, q.Net)
		}
		same(t, x, m, edges...)
	})
}
