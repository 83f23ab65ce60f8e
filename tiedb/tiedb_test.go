package tiedb_test

import (
	"math"
	"math/rand"
	"runtime"
	"slices"
	"testing"

	"selvage/api"
	"selvage/tiedb"
	"selvage/wire"
)

// notTimes are numbers that are no times.
var notTimes = []int{-1, -2, -300, -api.MaxTime, api.MaxTime + 1, api.MaxTime + 2, 1 << 41, math.MinInt32, math.MinInt, math.MinInt + 1,
	math.MaxInt - 1, math.MaxInt}

// id returns an id.
func id(dir, origin, kind, nr int) api.TieId {
	return api.TieId{Dir: dir, Origin: origin, Kind: kind, Nr: nr}
}

// a, b and c are ids, in ascending order: of a node, and of prefixes.
var (
	a = id(api.South, 9, api.TieNode, 7)
	b = id(api.North, 2, api.TiePrefix, 9)
	c = id(api.North, 3, api.TiePositive, 0)
)

// made returns a valid TIE, whose content tells its Seq and its Life.
func made(of api.TieId, seq, life int) api.Tie {
	x := api.Tie{Head: api.Head{Id: of, Seq: seq, Life: life}}
	if of.Kind == api.TieNode {
		x.Level, x.Overload = seq%25, life%2 == 1
		x.Edges = []api.Edge{{Node: 1 + seq%1000, Level: life % 25, Cost: 1 + life}, {Node: 7, Cost: 1}}
		return x
	}
	x.Reaches = []api.Reach{{Prefix: api.Prefix{Net: 10 << 24, Bits: 8}, Metric: seq % 1000}, {Metric: life}}
	return x
}

// equal tells whether two TIEs are the same, where an empty list is none.
func equal(x, y api.Tie) bool {
	return x.Head == y.Head && x.Level == y.Level && x.Overload == y.Overload &&
		slices.Equal(x.Edges, y.Edges) && slices.Equal(x.Reaches, y.Reaches)
}

// base returns an empty base.
func base(t *testing.T, room int) *tiedb.Base {
	t.Helper()
	d, e := tiedb.New(room)
	if e != api.OK || d == nil {
		t.Fatalf("New(%d) = %v, %v", room, d, e)
	}
	return d
}

// puts checks what Put returns.
func puts(t *testing.T, d *tiedb.Base, x api.Tie, now, n int, e api.Errno) {
	t.Helper()
	if got, err := d.Put(x, now); got != n || err != e {
		t.Fatalf("Put(%v, %d) = %d, %v, want %d, %v", x, now, got, err, n, e)
	}
}

// gets checks that Get returns a TIE with that Life.
func gets(t *testing.T, d *tiedb.Base, x api.Tie, now, life int) {
	t.Helper()
	x.Head.Life = life
	if got, is := d.Get(x.Head.Id, now); !equal(got, x) || !is {
		t.Fatalf("Get(%v, %d) = %v, %v, want %v", x.Head.Id, now, got, is, x)
	}
}

// lacks checks that Get returns no TIE.
func lacks(t *testing.T, d *tiedb.Base, of api.TieId, now int) {
	t.Helper()
	if got, is := d.Get(of, now); !equal(got, api.Tie{}) || is {
		t.Fatalf("Get(%v, %d) = %v, %v, want none", of, now, got, is)
	}
}

// holds checks how many TIEs there are in a base, and whether it is full.
func holds(t *testing.T, d *tiedb.Base, n int, full bool) {
	t.Helper()
	if d.Len() != n || d.Full() != full {
		t.Fatalf("Len = %d, Full = %v, want %d, %v", d.Len(), d.Full(), n, full)
	}
}

// ages checks what Age returns.
func ages(t *testing.T, d *tiedb.Base, now int, want ...api.TieId) {
	t.Helper()
	if got := d.Age(now); !slices.Equal(got, want) {
		t.Fatalf("Age(%d) = %v, want %v", now, got, want)
	}
}

// lists checks what Heads and All return.
func lists(t *testing.T, d *tiedb.Base, now int, want ...api.Tie) {
	t.Helper()
	if got := d.All(now); !slices.EqualFunc(got, want, equal) {
		t.Fatalf("All(%d) = %v, want %v", now, got, want)
	}
	var heads []api.Head
	for _, x := range want {
		heads = append(heads, x.Head)
	}
	if got := d.Heads(now); !slices.Equal(got, heads) {
		t.Fatalf("Heads(%d) = %v, want %v", now, got, heads)
	}
}

// left returns a TIE with that Life.
func left(x api.Tie, life int) api.Tie {
	x.Head.Life = life
	return x
}

// model is what should be in a base: a list in no order.
type model struct {
	room int
	l    []entry
}

type entry struct {
	x      api.Tie
	expiry int
}

func (e entry) left(now int) int {
	if e.expiry < now {
		return 0
	}
	return e.expiry - now
}

// at returns the place of an Id in the list, or -1.
func (m *model) at(of api.TieId) int {
	return slices.IndexFunc(m.l, func(e entry) bool { return e.x.Head.Id == of })
}

// right tells whether a number is a time.
func right(now int) bool { return now >= 0 && now <= 1<<40 }

// put does what Put should.
func (m *model) put(x api.Tie, now int) (int, api.Errno) {
	if !wire.Right(api.Packet{Kind: api.KindTie, Tie: x}) || !right(now) {
		return 0, api.ErrArg
	}
	e := entry{x, now + x.Head.Life}
	i := m.at(x.Head.Id)
	switch {
	case i < 0 && len(m.l) == m.room:
		return 0, api.ErrFull
	case i < 0:
		m.l = append(m.l, e)
		return 1, api.OK
	}
	old, life := m.l[i].x.Head.Seq, m.l[i].left(now)
	switch {
	case x.Head.Seq > old, x.Head.Seq == old && x.Head.Life > life+300:
		m.l[i] = e
		return 2, api.OK
	case x.Head.Seq < old, life > x.Head.Life+300:
		return -1, api.OK
	}
	return 0, api.OK
}

// drop does what Drop should.
func (m *model) drop(of api.TieId) bool {
	i := m.at(of)
	if i >= 0 {
		m.l = slices.Delete(m.l, i, i+1)
	}
	return i >= 0
}

// age does what Age should.
func (m *model) age(now int) []api.TieId {
	var over []api.TieId
	if !right(now) {
		return nil
	}
	for _, e := range slices.Clone(m.l) {
		if e.left(now) == 0 {
			m.drop(e.x.Head.Id)
			over = append(over, e.x.Head.Id)
		}
	}
	slices.SortFunc(over, order)
	return over
}

// all returns what All should.
func (m *model) all(now int) []api.Tie {
	var l []api.Tie
	for _, e := range m.l {
		if right(now) && e.left(now) > 0 {
			l = append(l, left(e.x, e.left(now)))
		}
	}
	slices.SortFunc(l, func(x, y api.Tie) int { return order(x.Head.Id, y.Head.Id) })
	return l
}

// order tells which of two valid ids is less, as one number each.
func order(x, y api.TieId) int {
	number := func(i api.TieId) int { return ((i.Dir*1001+i.Origin)*5+i.Kind)*65536 + i.Nr }
	return number(x) - number(y)
}

// same checks that a base is what the model is, at those times.
func same(t *testing.T, d *tiedb.Base, m *model, times ...int) {
	t.Helper()
	holds(t, d, len(m.l), len(m.l) == m.room)
	for _, now := range times {
		lists(t, d, now, m.all(now)...)
		for _, e := range m.l {
			if right(now) && e.left(now) > 0 {
				gets(t, d, e.x, now, e.left(now))
			} else {
				lacks(t, d, e.x.Head.Id, now)
			}
		}
	}
}

// P12.1: New

func TestNew(t *testing.T) {
	for room := -70; room <= 4200; room++ {
		d, e := tiedb.New(room)
		want := api.ErrArg
		if room >= 1 && room <= 4096 {
			want = api.OK
		}
		if e != want || (d == nil) != (want != api.OK) {
			t.Fatalf("New(%d) = %v, %v, want %v", room, d, e, want)
		}
		if d != nil {
			same(t, d, &model{room: room}, 0, 5, api.MaxTime)
			ages(t, d, 0)
		}
	}
	for _, room := range []int{math.MinInt, math.MinInt32, math.MaxInt32, math.MaxInt, 1 << 32, 1<<32 + 1, -4096, 65536, 65537} {
		if d, e := tiedb.New(room); d != nil || e != api.ErrArg {
			t.Errorf("New(%d) = %v, %v", room, d, e)
		}
	}
}

// R4: a base is its own.
func TestTwoBases(t *testing.T) {
	x, y := base(t, 2), base(t, 1)
	puts(t, x, made(a, 1, 50), 0, 1, api.OK)
	holds(t, y, 0, false)
	puts(t, y, made(a, 1, 60), 0, 1, api.OK)
	puts(t, x, made(a, 2, 70), 0, 2, api.OK)
	gets(t, y, made(a, 1, 60), 0, 60)
	if !y.Drop(a) {
		t.Error("Drop = false")
	}
	gets(t, x, made(a, 2, 70), 0, 70)
	ages(t, x, 70, a)
	holds(t, x, 0, false)
}

// P12.1: Put

func TestPutOfSeqs(t *testing.T) {
	for _, life := range []int{1, 50, 600, api.MaxLife} {
		d := base(t, 1)
		for _, x := range [][2]int{{1, 1}, {3, 2}, {2, -1}, {3, 0}, {0, -1}, {api.MaxSeq, 2}, {api.MaxSeq, 0}, {api.MaxSeq - 1, -1}, {3, -1}} {
			puts(t, d, made(a, x[0], life), 5, x[1], api.OK)
		}
		gets(t, d, made(a, api.MaxSeq, life), 5, life)
		holds(t, d, 1, true)
	}
}

// A greater Seq decides, whatever the Lifes are.
func TestPutOfSeqAndLife(t *testing.T) {
	lives := []int{0, 1, 300, 301, 600, api.MaxLife}
	for _, old := range lives {
		for _, life := range lives {
			for _, now := range []int{0, 10, 400, api.MaxTime} {
				d := base(t, 1)
				puts(t, d, made(b, 5, old), 0, 1, api.OK)
				puts(t, d, made(b, 4, life), now, -1, api.OK)
				puts(t, d, made(b, 6, life), now, 2, api.OK)
				if life > 0 {
					gets(t, d, made(b, 6, life), now, life)
				}
				holds(t, d, 1, true)
				lacks(t, d, b, now+life)
			}
		}
	}
}

// For equal Seqs, t's Life is held against the remaining lifetime of the TIE in
// the base, not against the Life that this one had, and none of them is below 0.
func TestPutOfLife(t *testing.T) {
	for _, x := range []struct{ old, life, now, want int }{
		{600, 600, 0, 0}, {600, 600, 299, 0}, {600, 600, 300, 0}, {600, 600, 301, 2}, {600, 900, 0, 0}, {600, 901, 0, 2}, {600, 900, 1, 2},
		{600, 300, 0, 0}, {600, 299, 0, -1}, {600, 299, 1, 0}, {600, 100, 199, -1}, {600, 100, 200, 0}, {600, 0, 299, -1}, {600, 0, 300, 0},
		{10, 300, 10, 0}, {10, 301, 10, 2}, {10, 310, 9, 2}, {10, 301, 9, 0}, {10, 300, 11, 0}, {10, 300, 1000, 0}, {10, 301, 1000, 2},
		{10, 0, 1000, 0}, {10, 300, api.MaxTime, 0}, {10, 301, api.MaxTime, 2}, {0, 300, 0, 0}, {0, 301, 0, 2}, {0, 0, 0, 0},
		{api.MaxLife, api.MaxLife, 300, 0}, {api.MaxLife, api.MaxLife, 301, 2}, {api.MaxLife, 0, 0, -1},
	} {
		d := base(t, 1)
		puts(t, d, made(c, 7, x.old), 0, 1, api.OK)
		puts(t, d, made(c, 7, x.life), x.now, x.want, api.OK)
		want := []api.Tie{left(made(c, 7, x.old), x.old-x.now)}
		if x.want == 2 {
			want[0] = made(c, 7, x.life)
		}
		if want[0].Head.Life <= 0 {
			want = nil
		}
		lists(t, d, x.now, want...)
		holds(t, d, 1, true)
	}
}

// What is not newer changes nothing, the expiry time neither.
func TestPutOfNotNewer(t *testing.T) {
	d := base(t, 3)
	old := made(a, 5, 600)
	puts(t, d, old, 100, 1, api.OK)
	same := made(a, 5, 600)
	same.Level, same.Overload, same.Edges = 24, true, nil
	puts(t, d, same, 400, 0, api.OK)
	puts(t, d, made(a, 5, 0), 100, -1, api.OK)
	puts(t, d, made(a, 4, 604800), 400, -1, api.OK)
	gets(t, d, old, 100, 600)
	gets(t, d, old, 699, 1)
	lacks(t, d, a, 700)
	puts(t, d, made(a, 4, 604800), 700, -1, api.OK)
	puts(t, d, made(a, 5, 300), 700, 0, api.OK)
	lacks(t, d, a, 700)
	gets(t, d, old, 699, 1)
	holds(t, d, 1, false)
}

// A newer one replaces all of the other one, and its expiry time, be that later
// or earlier.
func TestPutReplaces(t *testing.T) {
	d := base(t, 1)
	x := made(a, 1, 601)
	puts(t, d, x, 10, 1, api.OK)
	y := api.Tie{Head: api.Head{Id: a, Seq: 2, Life: 3}, Edges: []api.Edge{{Node: 5, Level: 4, Cost: 6}, {Node: 6, Cost: 9}, {Node: 6, Cost: 8}}}
	puts(t, d, y, 20, 2, api.OK)
	lists(t, d, 22, left(y, 1))
	lacks(t, d, a, 23)
	puts(t, d, api.Tie{Head: api.Head{Id: a, Seq: 3, Life: 604800}, Level: 24}, 30, 2, api.OK)
	lists(t, d, 31, api.Tie{Head: api.Head{Id: a, Seq: 3, Life: 604799}, Level: 24})
	holds(t, d, 1, true)
}

// TIEs whose Ids differ in one number are two.
func TestPutOfOtherIds(t *testing.T) {
	ids := []api.TieId{id(1, 5, 2, 9), id(1, 5, 2, 10), id(1, 5, 3, 9), id(1, 6, 2, 9), id(2, 5, 2, 9), id(1, 5, 2, 65535), id(1, 1000, 2, 9)}
	d := base(t, 7)
	for i, of := range ids {
		holds(t, d, i, false)
		puts(t, d, made(of, 10-i, 50+i), 0, 1, api.OK)
	}
	holds(t, d, 7, true)
	for i, of := range ids {
		gets(t, d, made(of, 10-i, 50+i), 1, 49+i)
		puts(t, d, made(of, 10-i, 50+i), 0, 0, api.OK)
	}
}

// wrong returns TIEs, each with something that is not valid.
func wrong() []api.Tie {
	l := []api.Tie{{}}
	but := func(of api.TieId, change func(x *api.Tie)) {
		x := made(of, 3, 50)
		change(&x)
		l = append(l, x)
	}
	for _, n := range []int{-1, math.MinInt, math.MaxInt, 1 << 41, 1<<32 + 1} {
		but(b, func(x *api.Tie) { x.Head.Id.Dir = n })
		but(b, func(x *api.Tie) { x.Head.Id.Origin = n })
		but(b, func(x *api.Tie) { x.Head.Id.Kind = n })
		but(b, func(x *api.Tie) { x.Head.Id.Nr = n })
		but(b, func(x *api.Tie) { x.Head.Life = n })
		but(a, func(x *api.Tie) { x.Level = n })
		but(a, func(x *api.Tie) { x.Edges[1].Node = n })
		but(b, func(x *api.Tie) { x.Reaches[1].Metric = n })
	}
	but(b, func(x *api.Tie) { x.Head.Id.Dir = 0 })
	but(b, func(x *api.Tie) { x.Head.Id.Dir = 3 })
	but(b, func(x *api.Tie) { x.Head.Id.Origin = 0 })
	but(b, func(x *api.Tie) { x.Head.Id.Origin = 1001 })
	but(b, func(x *api.Tie) { x.Head.Id.Kind = 0 })
	but(b, func(x *api.Tie) { x.Head.Id.Kind = 5 })
	but(b, func(x *api.Tie) { x.Head.Id.Nr = 65536 })
	but(b, func(x *api.Tie) { x.Head.Seq = -1 })
	but(b, func(x *api.Tie) { x.Head.Seq = 1<<40 + 1 })
	but(b, func(x *api.Tie) { x.Head.Life = 604801 })
	but(a, func(x *api.Tie) { x.Level = 25 })
	but(a, func(x *api.Tie) { x.Edges[0].Level = -1 })
	but(a, func(x *api.Tie) { x.Edges[0].Cost = 0 })
	but(a, func(x *api.Tie) { x.Edges = make([]api.Edge, 65) })
	but(a, func(x *api.Tie) { x.Reaches = []api.Reach{{}} })
	but(b, func(x *api.Tie) { x.Level = 1 })
	but(b, func(x *api.Tie) { x.Overload = true })
	but(b, func(x *api.Tie) { x.Edges = []api.Edge{{Node: 1, Cost: 1}} })
	but(b, func(x *api.Tie) { x.Reaches[0].Prefix.Net++ })
	but(b, func(x *api.Tie) { x.Reaches[0].Prefix.Bits = 33 })
	but(b, func(x *api.Tie) { x.Reaches = make([]api.Reach, 65) })
	return l
}

func TestPutOfWrong(t *testing.T) {
	for _, room := range []int{1, 2, 3} {
		d, m := base(t, room), &model{room: room}
		check := func() {
			t.Helper()
			for _, x := range wrong() {
				for _, now := range append([]int{0, 7, api.MaxTime}, notTimes...) {
					puts(t, d, x, now, 0, api.ErrArg)
				}
			}
			for _, now := range notTimes {
				puts(t, d, made(a, 9, 600), now, 0, api.ErrArg)
				puts(t, d, made(c, 1, 600), now, 0, api.ErrArg)
			}
			same(t, d, m, 0, 20, 30)
		}
		check()
		for _, x := range []api.Tie{made(a, 3, 50), made(b, 3, 50)}[:min(room, 2)] {
			puts(t, d, x, 5, 1, api.OK)
			m.put(x, 5)
			check()
		}
	}
}

// At the edges of what is valid, a TIE is put.
func TestPutOfEdges(t *testing.T) {
	d, m := base(t, 100), &model{room: 100}
	many := made(id(1, 1, 1, 0), 0, 604800)
	many.Edges = slices.Repeat([]api.Edge{{Node: 1000, Level: 24, Cost: 1 << 20}}, 64)
	most := made(id(2, 1000, 4, 65535), 1<<40, 604800)
	most.Reaches = slices.Repeat([]api.Reach{{Prefix: api.Prefix{Net: math.MaxUint32, Bits: 32}, Metric: 1 << 20}}, 64)
	for _, x := range []api.Tie{many, most, made(id(1, 1, 2, 0), 0, 0), made(id(1, 1000, 3, 65535), 1<<40, 0), {Head: api.Head{Id: id(2, 1, 1, 0)}}} {
		for _, now := range []int{0, api.MaxTime} {
			n, e := m.put(x, now)
			puts(t, d, x, now, n, e)
			same(t, d, m, 0, 1, 604799, 604800, api.MaxTime-1, api.MaxTime)
		}
	}
}

// A full base takes no other TIE, but newer ones of those that it has; one that
// is not alive has its place until it is removed.
func TestPutOfFull(t *testing.T) {
	for _, room := range []int{1, 2, 3, 64, 65, 4096} {
		d := base(t, room)
		for i := range room {
			holds(t, d, i, false)
			puts(t, d, made(id(1, 1+i%1000, 2, i), 4, 50), 0, 1, api.OK)
		}
		first, last := id(1, 1, 2, 0), id(1, 1+(room-1)%1000, 2, room-1)
		holds(t, d, room, true)
		for _, now := range []int{0, 49, 50, 51, 1000, api.MaxTime} {
			puts(t, d, made(a, 9, 604800), now, 0, api.ErrFull)
			puts(t, d, made(id(1, 1, 2, 65535), 9, 0), now, 0, api.ErrFull)
			puts(t, d, made(a, -1, 604800), now, 0, api.ErrArg)
			puts(t, d, made(last, 3, 50), now, -1, api.OK)
			puts(t, d, made(last, 4, 50), now, 0, api.OK)
			lacks(t, d, a, now)
			holds(t, d, room, true)
		}
		puts(t, d, made(first, 5, 60), 0, 2, api.OK)
		holds(t, d, room, true)
		if !d.Drop(first) {
			t.Errorf("Drop(%v) = false", first)
		}
		holds(t, d, room-1, false)
		puts(t, d, made(a, 9, 80), 0, 1, api.OK)
		puts(t, d, made(first, 9, 80), 0, 0, api.ErrFull)
		if got := d.Age(50); len(got) != room-1 || len(d.All(0)) != 1 {
			t.Errorf("Age = %v", got)
		}
		holds(t, d, 1, room == 1)
		lists(t, d, 50, left(made(a, 9, 80), 30))
	}
}

// R3: what Put is given is neither changed nor kept.
func TestPutLeavesItsArgument(t *testing.T) {
	d := base(t, 2)
	for _, of := range []api.TieId{a, b} {
		for seq := range 2 {
			x := made(of, seq, 50)
			puts(t, d, x, 30, seq+1, api.OK)
			if !equal(x, made(of, seq, 50)) {
				t.Errorf("Put left %v", x)
			}
			spoil(x)
			gets(t, d, made(of, seq, 50), 30, 50)
		}
	}
}

// spoil changes what is in a TIE's lists, and what is behind it.
func spoil(x api.Tie) {
	for i := range x.Edges {
		x.Edges[i] = api.Edge{Node: 99, Level: 9, Cost: 999}
	}
	for i := range x.Reaches {
		x.Reaches[i] = api.Reach{Metric: 999}
	}
	_ = append(x.Edges, api.Edge{Node: 98})
	_ = append(x.Reaches, api.Reach{Metric: 998})
}

// P12.2: Get

func TestGet(t *testing.T) {
	for _, life := range []int{1, 2, 300, 604800} {
		for _, at := range []int{0, 1, 1000, 1 << 32, api.MaxTime - life, api.MaxTime} {
			d := base(t, 5)
			for _, of := range []api.TieId{a, b, c} {
				x := made(of, 3, life)
				puts(t, d, x, at, 1, api.OK)
				for _, later := range []int{0, 1, life / 2, life - 1} {
					if now := at + later; now <= api.MaxTime && later < life {
						gets(t, d, x, now, life-later)
					}
				}
				for _, now := range []int{at + life, at + life + 1, at + 2*life} {
					lacks(t, d, of, now)
				}
				for _, now := range notTimes {
					lacks(t, d, of, now)
				}
			}
			holds(t, d, 3, false)
		}
	}
}

func TestGetOfNone(t *testing.T) {
	d := base(t, 5)
	puts(t, d, made(b, 3, 600), 10, 1, api.OK)
	puts(t, d, made(c, 3, 0), 10, 1, api.OK)
	for _, of := range []api.TieId{{}, a, c, id(1, 2, 2, 9), id(2, 1, 2, 9), id(2, 2, 3, 9), id(2, 2, 2, 8), id(-1, math.MinInt, math.MaxInt, 1<<40)} {
		for _, now := range append([]int{0, 10, 11, api.MaxTime}, notTimes...) {
			if of != c || now >= 10 || now < 0 {
				lacks(t, d, of, now)
			}
		}
	}
	gets(t, d, made(b, 3, 600), 10, 600)
}

// At a time ahead of that at which a TIE was put, its expiry time is farther.
func TestGetAhead(t *testing.T) {
	d := base(t, 5)
	puts(t, d, made(a, 3, 0), 1000, 1, api.OK)
	gets(t, d, made(a, 3, 0), 999, 1)
	gets(t, d, made(a, 3, 0), 0, 1000)
	puts(t, d, made(b, 3, 604800), api.MaxTime, 1, api.OK)
	gets(t, d, made(b, 3, 604800), api.MaxTime, 604800)
	gets(t, d, made(b, 3, 604800), 0, 1<<40+604800)
	lists(t, d, 999, left(made(a, 3, 0), 1), left(made(b, 3, 604800), 1<<40+604800-999))
	lists(t, d, 1000, left(made(b, 3, 604800), 1<<40+604800-1000))
	puts(t, d, made(b, 3, 604800), 0, -1, api.OK)
	ages(t, d, 999)
	ages(t, d, 1000, a)
}

// R3: what Get, Heads and All return belongs to the caller.
func TestResultsAreTheCallers(t *testing.T) {
	d := base(t, 3)
	x, y := made(a, 3, 50), made(b, 4, 60)
	puts(t, d, x, 0, 1, api.OK)
	puts(t, d, y, 0, 1, api.OK)
	for range 3 {
		for _, of := range []api.TieId{a, b} {
			z, _ := d.Get(of, 0)
			spoil(z)
		}
		for _, z := range d.All(0) {
			spoil(z)
		}
		clear(d.All(0))
		clear(d.Heads(0))
		lists(t, d, 0, x, y)
		gets(t, d, x, 0, 50)
		gets(t, d, y, 0, 60)
	}
	all, again := d.All(0), d.All(0)
	spoil(all[0])
	if !equal(all[1], y) || !equal(again[0], x) {
		t.Errorf("a change of one TIE led to %v, %v", all, again)
	}
	one, _ := d.Get(a, 0)
	two, _ := d.Get(a, 0)
	spoil(one)
	if !equal(two, x) {
		t.Errorf("a change of one TIE led to %v", two)
	}
	d.Drop(b)
	puts(t, d, made(a, 9, 50), 0, 2, api.OK)
	if !equal(two, x) || !equal(all[1], y) || !equal(again[1], y) {
		t.Errorf("a change of the base led to %v, %v, %v", two, all, again)
	}
}

// P12.2: Drop

func TestDrop(t *testing.T) {
	d := base(t, 3)
	puts(t, d, made(a, 3, 50), 0, 1, api.OK)
	puts(t, d, made(b, 4, 60), 0, 1, api.OK)
	puts(t, d, made(c, 5, 0), 0, 1, api.OK)
	for _, of := range []api.TieId{{}, id(1, 9, 1, 8), id(2, 9, 1, 7), id(1, 8, 1, 7), id(1, 9, 2, 7), id(-1, 0, 1<<40, math.MinInt)} {
		if d.Drop(of) {
			t.Errorf("Drop(%v) = true", of)
		}
		holds(t, d, 3, true)
	}
	for i, of := range []api.TieId{b, c, a} {
		if !d.Drop(of) {
			t.Errorf("Drop(%v) = false", of)
		}
		lacks(t, d, of, 0)
		holds(t, d, 2-i, false)
		if d.Drop(of) {
			t.Errorf("Drop(%v) = true again", of)
		}
	}
	lists(t, d, 0)
}

// After Drop, no version is known: one that is older is put as a new one.
func TestPutAfterDrop(t *testing.T) {
	d := base(t, 1)
	puts(t, d, made(a, 9, 600), 0, 1, api.OK)
	d.Drop(a)
	puts(t, d, made(a, 2, 10), 0, 1, api.OK)
	gets(t, d, made(a, 2, 10), 0, 10)
	ages(t, d, 10, a)
	puts(t, d, made(a, 1, 10), 10, 1, api.OK)
	gets(t, d, made(a, 1, 10), 10, 10)
}

// P12.2: Age

func TestAge(t *testing.T) {
	d := base(t, 4)
	puts(t, d, made(c, 1, 20), 0, 1, api.OK)
	puts(t, d, made(a, 1, 20), 0, 1, api.OK)
	puts(t, d, made(b, 1, 21), 0, 1, api.OK)
	puts(t, d, made(id(2, 2, 2, 10), 1, 0), 10, 1, api.OK)
	for _, now := range append([]int{0, 9}, notTimes...) {
		ages(t, d, now)
		holds(t, d, 4, true)
	}
	ages(t, d, 10, id(2, 2, 2, 10))
	ages(t, d, 10)
	ages(t, d, 19)
	lists(t, d, 19, left(made(a, 1, 20), 1), left(made(b, 1, 21), 2), left(made(c, 1, 20), 1))
	ages(t, d, 20, a, c)
	lists(t, d, 20, left(made(b, 1, 21), 1))
	lists(t, d, 0, made(b, 1, 21))
	ages(t, d, api.MaxTime, b)
	ages(t, d, api.MaxTime)
	holds(t, d, 0, false)
}

// P12.2: Heads and All

// Whatever the order in which they are put, TIEs are in ascending order of Ids,
// as numbers, not as texts.
func TestOrder(t *testing.T) {
	ids := []api.TieId{id(1, 1, 1, 0), id(1, 1, 1, 2), id(1, 1, 1, 10), id(1, 1, 4, 1), id(1, 9, 1, 0), id(1, 10, 1, 0), id(1, 1000, 2, 65535),
		id(2, 1, 1, 0), id(2, 1, 2, 256), id(2, 2, 1, 255), id(2, 1000, 4, 65535)}
	r := rand.New(rand.NewSource(1))
	for range 200 {
		d := base(t, 20)
		for _, i := range r.Perm(len(ids)) {
			puts(t, d, made(ids[i], i, 50-i%2), 0, 1, api.OK)
		}
		var want, alive []api.Tie
		var over []api.TieId
		for i, of := range ids {
			want = append(want, made(of, i, 50-i%2))
			if i%2 == 0 {
				alive = append(alive, left(made(of, i, 50), 1))
			} else {
				over = append(over, of)
			}
		}
		lists(t, d, 0, want...)
		lists(t, d, 49, alive...)
		for _, now := range notTimes {
			lists(t, d, now)
		}
		ages(t, d, 49, over...)
		lists(t, d, 49, alive...)
		ages(t, d, 50, ids[0], ids[2], ids[4], ids[6], ids[8], ids[10])
	}
}

// Get, Heads, All, Len and Full change nothing.
func TestAskingLeavesAll(t *testing.T) {
	d := base(t, 3)
	puts(t, d, made(a, 1, 20), 0, 1, api.OK)
	puts(t, d, made(b, 1, 0), 0, 1, api.OK)
	for range 3 {
		for _, now := range append([]int{api.MaxTime, 20}, notTimes...) {
			lists(t, d, now)
			lacks(t, d, a, now)
			lacks(t, d, b, now)
			holds(t, d, 2, false)
		}
		lists(t, d, 0, made(a, 1, 20))
	}
	ages(t, d, 20, a, b)
}

// P12.3

// random returns a TIE of few Ids, not always a valid one.
func random(r *rand.Rand) api.Tie {
	x := made(id(1+r.Intn(2), 1+r.Intn(2), 1+r.Intn(4), r.Intn(2)), r.Intn(4), r.Intn(4)*150+r.Intn(3))
	switch r.Intn(40) {
	case 0:
		x.Level += 25
	case 1:
		x.Head.Id.Origin = 1001 * r.Intn(2)
	case 2:
		x.Head.Id.Kind = 5 - x.Head.Id.Kind
	}
	return x
}

// step does with a base and its model what a number says.
func step(t *testing.T, d *tiedb.Base, m *model, what int, x api.Tie, now int) {
	t.Helper()
	switch what % 8 {
	case 0:
		if got, want := d.Drop(x.Head.Id), m.drop(x.Head.Id); got != want {
			t.Fatalf("Drop(%v) = %v, want %v", x.Head.Id, got, want)
		}
	case 1:
		ages(t, d, now, m.age(now)...)
	default:
		n, e := m.put(x, now)
		puts(t, d, x, now, n, e)
	}
}

// A base does for a long time what its model does; times mostly go on, but now
// and then they don't.
func TestManySteps(t *testing.T) {
	r := rand.New(rand.NewSource(2))
	for _, room := range []int{1, 2, 5, 20, 32, 100} {
		for _, pace := range []int{1, 20, 200} {
			d, m, now := base(t, room), &model{room: room}, 0
			for range 3000 {
				now += r.Intn(pace)
				at := now
				switch r.Intn(30) {
				case 0:
					at = r.Intn(now + 1)
				case 1:
					at = notTimes[r.Intn(len(notTimes))]
				}
				step(t, d, m, r.Intn(12), random(r), at)
				if r.Intn(8) == 0 {
					same(t, d, m, at, now, now+r.Intn(400), -1)
				}
			}
		}
	}
}

// The theorem in its own words: of versions that are put in any order, with the
// Life that each of them has at that time, the newest one is known until it
// expires.
func TestNewestIsKnown(t *testing.T) {
	r := rand.New(rand.NewSource(3))
	for range 300 {
		d := base(t, 10)
		newest := map[api.TieId]api.Tie{}
		begun := 0
		for range 60 {
			// Each version was made at a time of its own, and lives until 4000.
			seq := r.Intn(100)
			now := begun + r.Intn(20)
			begun = now
			x := made([]api.TieId{a, b, c, id(1, 9, 1, 8)}[r.Intn(4)], seq, 4000-now)
			old, is := newest[x.Head.Id]
			want := 1
			switch {
			case is && seq > old.Head.Seq:
				want = 2
			case is && seq == old.Head.Seq:
				want = 0
			case is:
				want = -1
			}
			puts(t, d, x, now, want, api.OK)
			if want > 0 {
				newest[x.Head.Id] = x
			}
			for _, y := range newest {
				gets(t, d, y, now, 4000-now)
			}
		}
		for of, y := range newest {
			gets(t, d, y, 3999, 1)
			lacks(t, d, of, 4000)
		}
		if got := d.Age(4000); len(got) != len(newest) {
			t.Fatalf("Age = %v of %v", got, newest)
		}
	}
}

// Of all ways of putting four versions, the results are those of the model.
func TestAllVersions(t *testing.T) {
	versions := []api.Tie{made(a, 1, 0), made(a, 1, 301), made(a, 1, 602), made(a, 2, 0), made(a, 2, 301), made(a, 2, 500)}
	for ways := range 6 * 6 * 6 * 6 {
		for _, pace := range []int{0, 1, 100, 302} {
			d, m := base(t, 1), &model{room: 1}
			for i, what := 0, ways; i < 4; i, what = i+1, what/6 {
				n, e := m.put(versions[what%6], i*pace)
				puts(t, d, versions[what%6], i*pace, n, e)
				lists(t, d, i*pace, m.all(i*pace)...)
			}
			ages(t, d, 4*pace, m.age(4*pace)...)
		}
	}
}

// heap returns how many bytes are in use.
func heap() uint64 {
	var s runtime.MemStats
	runtime.GC()
	runtime.ReadMemStats(&s)
	return s.HeapAlloc
}

// No more is kept than is needed: of what was dropped, replaced or has expired,
// nothing is left.
func TestNothingIsLeft(t *testing.T) {
	d := base(t, 4096)
	round := func(n int) {
		for i := range 500 {
			of := id(1, 1+i, 1+n%4, n)
			puts(t, d, made(of, 1, 20), n, 1, api.OK)
			puts(t, d, made(of, 2, i%2), n, 2, api.OK)
			if i%4 == 0 && !d.Drop(of) {
				t.Fatalf("Drop(%v) = false", of)
			}
		}
		if got := d.Age(n + 1); len(got) != 375 || d.Len() != 0 {
			t.Fatalf("Age = %v, Len = %d", got, d.Len())
		}
	}
	round(0)
	before := heap()
	for n := range 100 {
		round(n + 1)
	}
	if after := heap(); after > before+1<<20 {
		t.Errorf("%d bytes are kept after all was removed, %d before", after, before)
	}
	lists(t, d, 0)
}

// An empty list that is put keeps nothing of the array that it is of.
func TestNothingOfAnEmptyListIsLeft(t *testing.T) {
	d := base(t, 100)
	before := heap()
	for i := range 50 {
		x, y := made(id(1, 1, 1, i), 1, 50), made(id(1, 1, 2, i), 1, 50)
		x.Edges, y.Reaches = make([]api.Edge, 0, 1<<16), make([]api.Reach, 0, 1<<16)
		puts(t, d, x, 0, 1, api.OK)
		puts(t, d, y, 0, 1, api.OK)
	}
	if after := heap(); after > before+1<<20 {
		t.Errorf("%d bytes are kept, %d before", after, before)
	}
	holds(t, d, 100, true)
}

// FuzzSteps searches for steps after which a base is not what its model is: of
// each six bytes, a TIE is put or dropped, or what is over is removed.
func FuzzSteps(f *testing.F) {
	f.Add(2, 0, []byte{2, 0, 1, 0, 50, 0, 2, 0, 3, 0, 50, 0, 2, 0, 2, 0, 50, 0, 1, 0, 0, 0, 0, 60})
	f.Add(1, api.MaxTime-100, []byte{2, 5, 1, 2, 0, 0, 3, 5, 1, 3, 0, 1, 2, 6, 1, 2, 0, 0, 0, 5, 0, 0, 0, 0, 2, 6, 1, 2, 0, 0})
	f.Add(4096, -1, []byte{2, 255, 255, 255, 255, 255})
	f.Add(4097, 0, []byte{})
	f.Fuzz(func(t *testing.T, room, now int, steps []byte) {
		d, e := tiedb.New(room)
		if (e == api.OK) != (1 <= room && room <= 4096) || (d == nil) != (e != api.OK) {
			t.Fatalf("New(%d) = %v, %v", room, d, e)
		}
		if d == nil {
			return
		}
		m := &model{room: room}
		for s := range slices.Chunk(steps[:min(len(steps), 600)], 6) {
			if len(s) < 6 {
				break
			}
			of := id(1+int(s[1]%2), 1+int(s[1]/2%3), 1+int(s[1]/6%5), int(s[1]/30))
			x := made(of, int(s[2]), int(s[3])*256+int(s[4]))
			// Around a time at the edges, numbers may be no times, or wrap round.
			now += int(int8(s[5]))
			step(t, d, m, int(s[0]), x, now)
			same(t, d, m, now, now+300)
		}
	})
}
