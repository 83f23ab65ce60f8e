package tide_test

import (
	"math"
	"math/rand"
	"reflect"
	"slices"
	"testing"

	"selvage/api"
	"selvage/tide"
	"selvage/tie"
	"selvage/tiedb"
	"selvage/wire"
)

// id returns an id.
func id(dir, origin, kind, nr int) api.TieId {
	return api.TieId{Dir: dir, Origin: origin, Kind: kind, Nr: nr}
}

// head returns a head.
func head(of api.TieId, seq, life int) api.Head { return api.Head{Id: of, Seq: seq, Life: life} }

// a to e are ids, in ascending order, each of which differs from the one before
// in another number; f is the one right after e.
var (
	a = id(1, 3, 2, 7)
	b = id(1, 3, 2, 9)
	c = id(1, 3, 4, 0)
	d = id(1, 4, 1, 0)
	e = id(2, 1, 1, 65535)
	f = id(2, 1, 2, 0)
)

type heads []api.Head

type ids []api.TieId

// ofTire returns a TIRE with those heads.
func ofTire(l ...api.Head) api.Packet { return api.Packet{Kind: api.KindTire, Heads: l} }

// ofTide returns a TIDE of that range with those heads.
func ofTide(from, to api.TieId, l ...api.Head) api.Packet {
	return api.Packet{Kind: api.KindTide, From: from, To: to, Heads: l}
}

// whole returns a TIDE of all Ids with those heads.
func whole(l ...api.Head) api.Packet { return ofTide(tie.First(), tie.Last(), l...) }

// headsOf returns one head of each of the first n of many ids, which ascend.
func headsOf(n int) []api.Head {
	var l []api.Head
	for i := range n {
		of := id(1+i/4000, 1+i/4%1000, 1+i%4, i*7919%65536)
		l = append(l, head(of, i%3, i*37%1000))
	}
	return l
}

// shuffled returns a list in another order.
func shuffled(r *rand.Rand, l []api.Head) []api.Head {
	l = slices.Clone(l)
	r.Shuffle(len(l), func(i, k int) { l[i], l[k] = l[k], l[i] })
	return l
}

// same tells whether two packets are the same, where an empty list is none.
func same(p, q api.Packet) bool {
	if !slices.Equal(p.Heads, q.Heads) {
		return false
	}
	p.Heads, q.Heads = nil, nil
	return reflect.DeepEqual(p, q)
}

// described tells by the chapter's words what Describe returns of valid
// arguments.
func described(l []api.Head, per int) []api.Packet {
	merged := tie.Merge(l, nil)
	count := (len(merged) + per - 1) / per
	if count == 0 {
		count = 1
	}
	packets := make([]api.Packet, count)
	for i := range packets {
		p := &packets[i]
		p.Kind = api.KindTide
		for k := i * per; k < len(merged) && k < i*per+per; k++ {
			p.Heads = append(p.Heads, merged[k])
		}
		p.From, p.To = id(1, 1, 1, 0), id(2, 1000, 4, 65535)
		if i > 0 {
			p.From, _ = tie.After(packets[i-1].To)
		}
		if i < count-1 {
			p.To = merged[i*per+per-1].Id
		}
	}
	return packets
}

// describes checks what Describe returns of valid arguments, that it leaves what
// it is given, and that the packets can be sent.
func describes(t *testing.T, l []api.Head, per int) []api.Packet {
	t.Helper()
	was := slices.Clone(l)
	got, err := tide.Describe(l, per)
	if want := described(l, per); err != api.OK || !slices.EqualFunc(got, want, same) {
		t.Fatalf("Describe(%v, %d) = %v, %v, want %v", l, per, got, err, want)
	}
	if !slices.Equal(l, was) {
		t.Fatalf("Describe left %v of %v", l, was)
	}
	for _, p := range got {
		if _, err := wire.Encode(p); !wire.Right(p) || err != api.OK {
			t.Fatalf("Describe(%v, %d) returned %v, which can't be sent: %v", l, per, p, err)
		}
	}
	return got
}

// refuses checks that Describe returns ErrArg and nothing else.
func refuses(t *testing.T, l []api.Head, per int) {
	t.Helper()
	if got, err := tide.Describe(l, per); err != api.ErrArg || len(got) != 0 {
		t.Errorf("Describe(%v, %d) = %v, %v", l, per, got, err)
	}
}

// newer tells whether a head is newer than another.
func newer(x, y api.Head) bool {
	return x.Seq > y.Seq || x.Seq == y.Seq && x.Life > y.Life && uint(x.Life)-uint(y.Life) > 300
}

// answered tells by the chapter's words what Answer returns, by maps: whichever
// Ids there are, each is treated for itself.
func answered(own []api.Head, p api.Packet) (ask []api.Head, send, both []api.TieId) {
	if !wire.Right(p) || p.Kind != api.KindTide && p.Kind != api.KindTire {
		return nil, nil, nil
	}
	mine, told := map[api.TieId]api.Head{}, map[api.TieId]api.Head{}
	var all []api.TieId
	count := func(l []api.Head, m map[api.TieId]api.Head) {
		for _, h := range tie.Merge(l, nil) {
			below := tie.Compare(h.Id, p.From) == -1
			above := tie.Compare(h.Id, p.To) == 1
			if p.Kind == api.KindTire || !below && !above {
				m[h.Id] = h
				all = append(all, h.Id)
			}
		}
	}
	count(own, mine)
	count(p.Heads, told)
	slices.SortFunc(all, tie.Compare)
	for _, of := range slices.Compact(all) {
		x, isMine := mine[of]
		y, isTold := told[of]
		if isTold && (!isMine || newer(y, x)) {
			ask = append(ask, y)
		}
		if isMine && (isTold && newer(x, y) || !isTold && p.Kind == api.KindTide) {
			send = append(send, of)
		}
		if isMine && isTold && !newer(x, y) && !newer(y, x) {
			both = append(both, of)
		}
	}
	return ask, send, both
}

// answers checks what Answer returns.
func answers(t *testing.T, own []api.Head, p api.Packet, ask heads, send, both ids) {
	t.Helper()
	x, y, z := tide.Answer(own, p)
	if !slices.Equal(x, ask) || !slices.Equal(y, send) || !slices.Equal(z, both) {
		t.Fatalf("Answer(%v, %v) = %v, %v, %v, want %v, %v, %v", own, p, x, y, z, ask, send, both)
	}
}

// answersSo checks that Answer returns what the chapter's words say, and that it
// leaves what it is given.
func answersSo(t *testing.T, own []api.Head, p api.Packet) {
	t.Helper()
	wasOwn, wasHeads := slices.Clone(own), slices.Clone(p.Heads)
	ask, send, both := answered(own, p)
	answers(t, own, p, ask, send, both)
	if !slices.Equal(own, wasOwn) || !slices.Equal(p.Heads, wasHeads) {
		t.Fatalf("Answer left %v, %v of %v, %v", own, p.Heads, wasOwn, wasHeads)
	}
}

// answersNothing checks that Answer returns nothing.
func answersNothing(t *testing.T, own []api.Head, p api.Packet) {
	t.Helper()
	answers(t, own, p, nil, nil, nil)
}

// wrongIds are ids that are not valid.
var wrongIds = []api.TieId{{}, id(0, 1, 1, 0), id(3, 1, 1, 0), id(-1, 1, 1, 0), id(1, 0, 1, 0), id(1, 1001, 1, 0), id(1, 1, 0, 0), id(2, 1, 5, 0),
	id(2, 1, 1, -1), id(2, 1, 1, 65536), id(math.MaxInt, 1, 1, 0), id(1, math.MinInt, 1, 0), id(1, 1, 1, 1<<32+1)}

// wrongHeads are heads that are not valid: of a wrong id, Seq or Life.
func wrongHeads() []api.Head {
	l := []api.Head{{}, head(a, -1, 0), head(a, 1<<40+1, 0), head(a, 1, -1), head(a, 1, 604801), head(a, math.MinInt, 0), head(a, math.MaxInt, 0),
		head(a, 0, math.MinInt), head(a, 0, math.MaxInt), head(a, -1, -1)}
	for _, of := range wrongIds {
		l = append(l, head(of, 1, 50))
	}
	return l
}

// P13.1: Describe

func TestDescribe(t *testing.T) {
	x := heads{head(c, 3, 0), head(a, 1, 5), head(e, 1, 604800), head(b, 2, 600), head(f, 1<<40, 0)}
	for per, want := range map[int][]api.Packet{
		1: {ofTide(tie.First(), a, x[1]), ofTide(id(1, 3, 2, 8), b, x[3]), ofTide(id(1, 3, 2, 10), c, x[0]), ofTide(id(1, 3, 4, 1), e, x[2]),
			ofTide(f, tie.Last(), x[4])},
		2:  {ofTide(tie.First(), b, x[1], x[3]), ofTide(id(1, 3, 2, 10), e, x[0], x[2]), ofTide(f, tie.Last(), x[4])},
		3:  {ofTide(tie.First(), c, x[1], x[3], x[0]), ofTide(id(1, 3, 4, 1), tie.Last(), x[2], x[4])},
		4:  {ofTide(tie.First(), e, x[1], x[3], x[0], x[2]), ofTide(f, tie.Last(), x[4])},
		5:  {whole(x[1], x[3], x[0], x[2], x[4])},
		6:  {whole(x[1], x[3], x[0], x[2], x[4])},
		64: {whole(x[1], x[3], x[0], x[2], x[4])},
	} {
		if got := describes(t, x, per); !slices.EqualFunc(got, want, same) {
			t.Errorf("Describe by %d = %v, want %v", per, got, want)
		}
	}
}

func TestDescribeOfNone(t *testing.T) {
	for per := 1; per <= 64; per++ {
		for _, l := range [][]api.Head{nil, {}, headsOf(3)[:0]} {
			got := describes(t, l, per)
			if len(got) != 1 || !same(got[0], api.Packet{Kind: api.KindTide, From: id(1, 1, 1, 0), To: id(2, 1000, 4, 65535)}) {
				t.Errorf("Describe of none by %d = %v", per, got)
			}
		}
	}
}

// Heads are divided evenly and unevenly, by each number.
func TestDescribeByEach(t *testing.T) {
	r := rand.New(rand.NewSource(1))
	for per := 1; per <= 64; per++ {
		for _, n := range []int{1, 2, per - 1, per, per + 1, 2*per - 1, 2 * per, 2*per + 1, 3 * per, 64, 65, 129} {
			got := describes(t, shuffled(r, headsOf(n)), per)
			if want := max(1, (n+per-1)/per); len(got) != want {
				t.Errorf("Describe of %d by %d returned %d packets, want %d", n, per, len(got), want)
			}
		}
	}
}

func TestDescribeOfMany(t *testing.T) {
	r := rand.New(rand.NewSource(2))
	for _, per := range []int{1, 16, 64} {
		describes(t, shuffled(r, headsOf(4096)), per)
	}
}

// One head of each Id is told: that which Merge keeps.
func TestDescribeMerges(t *testing.T) {
	for name, x := range map[string]struct{ l, want heads }{
		"twice the same":        {heads{head(a, 1, 5), head(a, 1, 5)}, heads{head(a, 1, 5)}},
		"a newer one":           {heads{head(a, 1, 900), head(b, 1, 0), head(a, 2, 0)}, heads{head(a, 2, 0), head(b, 1, 0)}},
		"an older one":          {heads{head(b, 2, 0), head(a, 1, 0), head(b, 1, 900)}, heads{head(a, 1, 0), head(b, 2, 0)}},
		"the first of equals":   {heads{head(a, 1, 100), head(a, 1, 400)}, heads{head(a, 1, 100)}},
		"by its Life":           {heads{head(a, 1, 100), head(a, 1, 401)}, heads{head(a, 1, 401)}},
		"each against the kept": {heads{head(a, 1, 0), head(a, 1, 300), head(a, 1, 600)}, heads{head(a, 1, 600)}},
	} {
		t.Run(name, func(t *testing.T) {
			if got := describes(t, x.l, 2); len(got) != 1 || !same(got[0], whole(x.want...)) {
				t.Errorf("Describe(%v) = %v", x.l, got)
			}
			describes(t, x.l, 1)
		})
	}
	// Groups are of heads that are merged already.
	l := slices.Repeat(headsOf(10), 10)
	if got := describes(t, l, 5); len(got) != 2 {
		t.Errorf("%d packets", len(got))
	}
}

// A range begins right after the one before, across each of an id's numbers.
func TestDescribeRanges(t *testing.T) {
	for _, x := range [][2]api.TieId{
		{id(1, 1, 1, 0), id(1, 1, 1, 1)}, {id(1, 1, 1, 65535), id(1, 1, 2, 0)}, {id(1, 7, 4, 65535), id(1, 8, 1, 0)},
		{id(1, 1000, 4, 65535), id(2, 1, 1, 0)}, {id(2, 1000, 4, 65534), id(2, 1000, 4, 65535)}, {id(2, 999, 4, 65535), id(2, 1000, 1, 0)},
	} {
		want := []api.Packet{ofTide(tie.First(), x[0], head(x[0], 1, 5)), ofTide(x[1], tie.Last(), head(tie.Last(), 1, 5))}
		got := describes(t, heads{head(tie.Last(), 1, 5), head(x[0], 1, 5)}, 1)
		if !slices.EqualFunc(got, want, same) {
			t.Errorf("Describe of %v = %v", x, got)
		}
	}
	got := describes(t, heads{head(tie.First(), 0, 0), head(tie.Last(), 1<<40, 604800)}, 1)
	if len(got) != 2 || got[0].To != tie.First() || got[1].From != id(1, 1, 1, 1) {
		t.Errorf("Describe of the ends = %v", got)
	}
	describes(t, heads{head(tie.Last(), 0, 0)}, 1)
}

// At the edges of what is valid, a head is described.
func TestDescribeOfEdges(t *testing.T) {
	var l []api.Head
	for _, dir := range []int{1, 2} {
		for _, origin := range []int{1, 1000} {
			for kind := 1; kind <= 4; kind++ {
				for _, nr := range []int{0, 65535} {
					for _, h := range []api.Head{{Seq: 0, Life: 0}, {Seq: 1 << 40, Life: 0}, {Seq: 0, Life: 604800}, {Seq: 1 << 40, Life: 604800}} {
						h.Id = id(dir, origin, kind, nr)
						describes(t, heads{h}, 1)
						l = append(l, h)
					}
				}
			}
		}
	}
	for _, per := range []int{1, 2, 15, 16, 31, 32, 33, 64} {
		describes(t, l, per)
	}
}

func TestDescribeByWrong(t *testing.T) {
	for _, per := range []int{0, -1, -64, 65, 66, 128, 1 << 32, 1<<32 + 1, math.MinInt, math.MinInt + 1, math.MaxInt, math.MaxInt - 1} {
		for _, l := range [][]api.Head{nil, headsOf(1), headsOf(64), headsOf(200), {{}}} {
			refuses(t, l, per)
		}
	}
}

// One wrong head is enough, wherever it is, also if Merge would not keep it.
func TestDescribeOfWrong(t *testing.T) {
	for _, x := range wrongHeads() {
		for _, n := range []int{0, 1, 2, 63, 64, 65, 130} {
			for _, at := range []int{0, n / 2, n} {
				l := slices.Insert(headsOf(n), at, x)
				for _, per := range []int{1, 16, 64} {
					refuses(t, l, per)
				}
			}
		}
		refuses(t, heads{x, x}, 5)
		refuses(t, heads{head(a, 1<<40, 604800), x}, 5)
		refuses(t, heads{x, head(a, 1<<40, 604800)}, 5)
	}
}

// R3: what Describe returns belongs to the caller, each list by itself.
func TestDescriptionsAreTheCallers(t *testing.T) {
	l := headsOf(10)
	for per := 1; per <= 12; per++ {
		got, again := describes(t, l, per), describes(t, l, per)
		for i, p := range got {
			for k := range p.Heads {
				p.Heads[k] = head(f, 99, 99)
			}
			_ = append(p.Heads, head(f, 98, 98))
			if want := described(l, per); !slices.EqualFunc(got[i+1:], want[i+1:], same) || !slices.EqualFunc(again, want, same) {
				t.Fatalf("a change of the packet %d led to %v, %v", i, got[i+1:], again)
			}
		}
		if !slices.Equal(l, headsOf(10)) {
			t.Fatalf("a change of the packets led to %v", l)
		}
	}
}

// P13.2: Answer

// One Id, which may be known at one end, or at both in versions of which either
// may be newer.
func TestAnswer(t *testing.T) {
	const ask, send, both, nothing = 1, 2, 3, 0
	old, fresh := head(b, 1, 600), head(b, 2, 0)
	for name, x := range map[string]struct {
		own, told  heads
		tide, tire int
	}{
		"none":                  {nil, nil, nothing, nothing},
		"told alone":            {nil, heads{old}, ask, ask},
		"own alone":             {heads{old}, nil, send, nothing},
		"told is newer":         {heads{old}, heads{fresh}, ask, ask},
		"own is newer":          {heads{fresh}, heads{old}, send, send},
		"the same":              {heads{old}, heads{old}, both, both},
		"told by 301":           {heads{head(b, 5, 100)}, heads{head(b, 5, 401)}, ask, ask},
		"told by 300":           {heads{head(b, 5, 100)}, heads{head(b, 5, 400)}, both, both},
		"own by 300":            {heads{head(b, 5, 400)}, heads{head(b, 5, 100)}, both, both},
		"own by 301":            {heads{head(b, 5, 401)}, heads{head(b, 5, 100)}, send, send},
		"told of nothing":       {nil, heads{head(b, 0, 0)}, ask, ask},
		"own of nothing":        {heads{head(b, 0, 0)}, nil, send, nothing},
		"both of nothing":       {heads{head(b, 0, 0)}, heads{head(b, 0, 0)}, both, both},
		"a request":             {heads{old}, heads{head(b, 0, 0)}, send, send},
		"told with much Life":   {heads{fresh}, heads{head(b, 1, 604800)}, send, send},
		"own with much Life":    {heads{head(b, 1, 604800)}, heads{fresh}, ask, ask},
		"told twice":            {heads{old}, heads{old, fresh}, ask, ask},
		"told twice, otherwise": {heads{old}, heads{fresh, old}, ask, ask},
		"own twice":             {heads{old, fresh}, heads{old}, send, send},
		"own twice, otherwise":  {heads{fresh, old}, heads{old}, send, send},
		"both twice":            {heads{fresh, old}, heads{old, fresh, old}, both, both},
		"own slowly":            {heads{head(b, 1, 0), head(b, 1, 300), head(b, 1, 600)}, heads{head(b, 1, 299)}, send, send},
		"told slowly":           {heads{head(b, 1, 299)}, heads{head(b, 1, 0), head(b, 1, 300), head(b, 1, 600)}, ask, ask},
	} {
		t.Run(name, func(t *testing.T) {
			want := func(n int) (l heads, m, o ids) {
				switch n {
				case ask:
					// That which is newest in what is told.
					return tie.Merge(x.told, nil), nil, nil
				case send:
					return nil, ids{b}, nil
				case both:
					return nil, nil, ids{b}
				}
				return nil, nil, nil
			}
			l, m, o := want(x.tide)
			for _, p := range []api.Packet{whole(x.told...), ofTide(b, b, x.told...), ofTide(a, c, x.told...)} {
				answers(t, x.own, p, l, m, o)
				answersSo(t, x.own, p)
			}
			l, m, o = want(x.tire)
			answers(t, x.own, ofTire(x.told...), l, m, o)
			answersSo(t, x.own, ofTire(x.told...))
		})
	}
}

// All that is told of an Id is requested with the head that is told of it, in
// ascending order, whatever the order of what is known and told.
func TestAnswerOfSeveral(t *testing.T) {
	r := rand.New(rand.NewSource(3))
	own := heads{head(a, 5, 0), head(b, 5, 0), head(c, 5, 0), head(d, 5, 400), head(e, 5, 0)}
	told := heads{head(b, 6, 77), head(c, 4, 0), head(d, 5, 100), head(e, 5, 301), head(f, 1, 2)}
	for range 100 {
		x, y := shuffled(r, own), shuffled(r, told)
		answers(t, x, whole(y...), heads{head(b, 6, 77), head(e, 5, 301), head(f, 1, 2)}, ids{a, c}, ids{d})
		answers(t, x, ofTire(y...), heads{head(b, 6, 77), head(e, 5, 301), head(f, 1, 2)}, ids{c}, ids{d})
	}
}

// All three lists ascend, by numbers.
func TestAnswerSorts(t *testing.T) {
	r := rand.New(rand.NewSource(4))
	var own, told, ask []api.Head
	var send, both []api.TieId
	for i, h := range headsOf(190) {
		h.Seq, h.Life = 5, 50
		x := h
		x.Seq = 3 + i%5
		switch {
		case i%19 == 1:
			own = append(own, h)
			send = append(send, h.Id)
		case i%19 == 2:
			told = append(told, x)
			ask = append(ask, x)
		case i%19 < 6:
			own, told = append(own, h), append(told, x)
			switch {
			case x.Seq > 5:
				ask = append(ask, x)
			case x.Seq < 5:
				send = append(send, h.Id)
			default:
				both = append(both, h.Id)
			}
		}
	}
	if len(told) > 64 || len(ask) < 10 || len(send) < 10 || len(both) < 5 {
		t.Fatal("too few are compared, or too many are told")
	}
	for range 100 {
		answers(t, shuffled(r, own), whole(shuffled(r, told)...), ask, send, both)
	}
}

// Only Ids in the range of a TIDE count: its ends do, and what is next to them
// doesn't; a TIRE has no range.
func TestAnswerInRange(t *testing.T) {
	from, to := id(1, 3, 2, 65535), id(2, 3, 2, 0)
	in := ids{from, id(1, 3, 3, 0), id(1, 1000, 4, 65535), id(2, 1, 1, 0), id(2, 2, 4, 65535), id(2, 3, 1, 65535), to}
	out := ids{tie.First(), id(1, 3, 2, 0), id(1, 3, 2, 65534), id(1, 2, 4, 65535), id(1, 3, 1, 65535), id(2, 3, 2, 1), id(2, 3, 3, 0), id(2, 4, 1, 0), tie.Last()}
	var all heads
	for _, of := range slices.Concat(in, out) {
		all = append(all, head(of, 1, 50))
	}
	for _, of := range in {
		x := head(of, 1, 50)
		answers(t, nil, ofTide(from, to, x), heads{x}, nil, nil)
		answers(t, heads{x}, ofTide(from, to), nil, ids{of}, nil)
		answers(t, heads{x}, ofTide(from, to, x), nil, nil, ids{of})
		answers(t, heads{x}, ofTide(of, of, all...), nil, nil, ids{of})
	}
	for _, of := range out {
		x, y := head(of, 1, 50), head(of, 2, 50)
		answersNothing(t, nil, ofTide(from, to, x))
		answersNothing(t, heads{x}, ofTide(from, to))
		answersNothing(t, heads{x}, ofTide(from, to, x))
		answersNothing(t, heads{x}, ofTide(from, to, y))
		answersNothing(t, heads{y}, ofTide(from, to, x))
		answers(t, nil, ofTire(x), heads{x}, nil, nil)
		answers(t, heads{y}, ofTire(x), nil, ids{of}, nil)
		answers(t, heads{x}, ofTire(x), nil, nil, ids{of})
	}
	answers(t, all, ofTide(from, to), nil, in, nil)
	answersSo(t, nil, ofTide(from, to, all...))
	answersSo(t, all, ofTide(from, to, all...))
}

// Of all ranges between some Ids, also those that end before they begin, the Ids
// in them count.
func TestAnswerInEachRange(t *testing.T) {
	some := ids{tie.First(), a, b, c, d, e, f, tie.Last()}
	var own, told heads
	for i, of := range some {
		own, told = append(own, head(of, 5, 50)), append(told, head(of, 4+i%3, 50))
	}
	for i, from := range some {
		for k, to := range some {
			want := ids{}
			if i <= k {
				want = some[i : k+1]
			}
			answers(t, own, ofTide(from, to), nil, want, nil)
			answers(t, own, ofTide(from, to, own...), nil, nil, want)
			answersSo(t, own, ofTide(from, to, told...))
			answersSo(t, nil, ofTide(from, to, told...))
			answersSo(t, own[k:], ofTide(from, to, told[:i]...))
		}
	}
}

// Own heads need not be valid: they are compared as they are.
func TestAnswerOfWrongOwn(t *testing.T) {
	for _, x := range wrongHeads() {
		for _, told := range []heads{nil, {head(a, 0, 0)}, {head(a, 1, 50), head(b, 1, 50)}, {head(a, 1<<40, 604800)}} {
			for _, own := range []heads{{x}, {x, x}, {head(b, 1, 50), x}, {x, head(a, 1, 50)}} {
				answersSo(t, own, whole(told...))
				answersSo(t, own, ofTide(a, b, told...))
				answersSo(t, own, ofTire(told...))
			}
		}
	}
	answers(t, heads{head(a, -1, 0)}, whole(head(a, 0, 0)), heads{head(a, 0, 0)}, nil, nil)
	answers(t, heads{head(a, math.MaxInt, math.MinInt)}, ofTire(head(a, 1<<40, 0)), nil, ids{a}, nil)
	answers(t, heads{head(a, 1, math.MinInt)}, ofTire(head(a, 1, 0)), heads{head(a, 1, 0)}, nil, nil)
	answers(t, heads{head(a, 1, math.MaxInt)}, ofTire(head(a, 1, 0)), nil, ids{a}, nil)
	// 1001 is no Origin, but its Id is between these.
	answers(t, heads{head(id(1, 1001, 9, -4), 1, 50), head(id(0, 5, 5, 5), 1, 50), head(id(3, 1, 1, 0), 1, 50)}, whole(), nil, ids{id(1, 1001, 9, -4)}, nil)
}

// wrongPackets are packets that are not valid, of each Kind.
func wrongPackets() []api.Packet {
	x := head(a, 1, 50)
	l := []api.Packet{
		{}, {Kind: -1, Heads: heads{x}}, {Kind: 5, Heads: heads{x}}, {Kind: math.MaxInt}, {Kind: math.MinInt}, {Heads: heads{x}},
		{Kind: api.KindLie}, {Kind: api.KindTie}, {Kind: api.KindTide}, {Kind: api.KindTide, Heads: heads{x}},
		{Kind: api.KindTire, From: tie.First(), To: tie.Last(), Heads: heads{x}}, {Kind: api.KindTire, To: a, Heads: heads{x}},
		{Kind: api.KindTire, From: a}, {Kind: api.KindTire, Lie: api.Lie{Node: 1}, Heads: heads{x}},
		{Kind: api.KindTire, Tie: api.Tie{Level: 1}, Heads: heads{x}}, {Kind: api.KindTire, Tie: api.Tie{Edges: []api.Edge{{}}}, Heads: heads{x}},
		{Kind: api.KindTide, From: a, To: b, Lie: api.Lie{NoOffer: true}, Heads: heads{x}},
		{Kind: api.KindTide, From: a, To: b, Tie: api.Tie{Overload: true}, Heads: heads{x}},
		ofTire(headsOf(65)...), whole(headsOf(65)...), whole(slices.Repeat(heads{x}, 65)...), ofTire(slices.Repeat(heads{x}, 65)...),
	}
	for _, of := range wrongIds {
		l = append(l, ofTide(of, b, x), ofTide(a, of, x), ofTide(of, of, x))
	}
	for _, y := range wrongHeads() {
		l = append(l, ofTire(y), whole(y), ofTide(a, b, x, y), ofTire(y, x), ofTide(e, f, y))
	}
	return l
}

func TestAnswerOfWrong(t *testing.T) {
	for _, p := range wrongPackets() {
		if wire.Right(p) {
			t.Errorf("%v is valid", p)
		}
		answersNothing(t, nil, p)
		answersNothing(t, heads{head(a, 1, 50)}, p)
		answersNothing(t, heads{head(a, 2, 50), head(b, 1, 50), {}}, p)
		answersNothing(t, headsOf(100), p)
	}
}

// Valid packets of other Kinds are not answered, nor are such with heads.
func TestAnswerOfOthers(t *testing.T) {
	own := heads{head(a, 2, 50), head(b, 1, 50)}
	for _, p := range []api.Packet{
		{Kind: api.KindLie, Lie: api.Lie{Node: 7, Level: 3, Mtu: 1400}},
		{Kind: api.KindTie, Tie: api.Tie{Head: head(a, 1, 50), Reaches: []api.Reach{{Metric: 1}}}},
		{Kind: api.KindTie, Tie: api.Tie{Head: head(d, 1, 50), Level: 3}},
	} {
		if !wire.Right(p) {
			t.Errorf("%v is not valid", p)
		}
		answersNothing(t, own, p)
		p.Heads = heads{head(a, 1, 50), head(c, 1, 50)}
		answersNothing(t, own, p)
	}
}

// At the edges of what is valid, a packet is answered.
func TestAnswerOfEdges(t *testing.T) {
	most := headsOf(64)
	answers(t, nil, ofTire(most...), tie.Merge(most, nil), nil, nil)
	answers(t, nil, whole(most...), tie.Merge(most, nil), nil, nil)
	for _, of := range []api.TieId{tie.First(), tie.Last()} {
		for _, seq := range []int{0, 1 << 40} {
			for _, life := range []int{0, 604800} {
				x := head(of, seq, life)
				answers(t, nil, whole(x), heads{x}, nil, nil)
				answers(t, nil, ofTire(x), heads{x}, nil, nil)
				answers(t, heads{x}, ofTide(of, of), nil, ids{of}, nil)
				answers(t, heads{x}, whole(x), nil, nil, ids{of})
			}
		}
	}
	answersNothing(t, nil, whole())
	answersNothing(t, nil, ofTire())
	answersNothing(t, most, ofTire())
}

// R3: what Answer returns belongs to the caller.
func TestAnswersAreTheCallers(t *testing.T) {
	own := heads{head(a, 1, 50), head(b, 1, 50), head(c, 1, 50)}
	told := heads{head(a, 2, 50), head(b, 1, 50), head(d, 1, 50)}
	for _, p := range []api.Packet{whole(slices.Clone(told)...), ofTire(slices.Clone(told)...)} {
		x, y, z := tide.Answer(own, p)
		k, l, m := tide.Answer(own, p)
		for _, list := range []heads{x, append(x, head(f, 9, 9))} {
			for i := range list {
				list[i] = head(f, 99, 99)
			}
		}
		for _, list := range [][]api.TieId{append(y, f), append(z, f)} {
			for i := range list {
				list[i] = f
			}
		}
		ask, send, both := answered(own, p)
		if !slices.Equal(k, ask) || !slices.Equal(l, send) || !slices.Equal(m, both) || !slices.Equal(p.Heads, told) {
			t.Errorf("a change of an answer led to %v, %v, %v, %v", k, l, m, p)
		}
		answersSo(t, own, p)
	}
}

// few returns heads of few ids, of which there are few Seqs, and Lifes on both
// sides of the limit.
func few(r *rand.Rand, most int) []api.Head {
	var l []api.Head
	for range r.Intn(most + 1) {
		l = append(l, head(id(1+r.Intn(2), 1+r.Intn(3), 1+r.Intn(2), r.Intn(2)), r.Intn(3), r.Intn(4)*150+r.Intn(3)))
	}
	return l
}

func TestAnswerOfRandom(t *testing.T) {
	r := rand.New(rand.NewSource(5))
	for range 5000 {
		ends := append(few(r, 2), head(tie.First(), 0, 0), head(tie.Last(), 0, 0))
		told := few(r, 24)
		p := ofTide(ends[0].Id, ends[1].Id, told...)
		answersSo(t, few(r, 24), p)
		answersSo(t, few(r, 24), whole(told...))
		answersSo(t, few(r, 24), ofTire(told...))
	}
}

// P13.3

// The packets' ranges follow one another from the first Id to the last one, and
// their heads are those that there are, each in its packet's range.
func TestPacketsCoverAll(t *testing.T) {
	r := rand.New(rand.NewSource(6))
	for range 500 {
		l := append(few(r, 30), headsOf(r.Intn(100))...)
		packets := describes(t, l, 1+r.Intn(64))
		next, is := tie.First(), true
		var told []api.Head
		for _, p := range packets {
			if !is || p.From != next || tie.Compare(p.From, p.To) > 0 {
				t.Fatalf("the range %v to %v does not follow %v", p.From, p.To, next)
			}
			for _, h := range p.Heads {
				if tie.Compare(p.From, h.Id) > 0 || tie.Compare(h.Id, p.To) > 0 {
					t.Fatalf("%v is not in the range %v to %v", h, p.From, p.To)
				}
			}
			told = append(told, p.Heads...)
			next, is = tie.After(p.To)
		}
		if is || !slices.Equal(told, tie.Merge(l, nil)) {
			t.Fatalf("the packets tell %v of %v, and go on at %v", told, l, next)
		}
		// Each Id is in one range alone: who knows it sends it once.
		of := id(1+r.Intn(2), 1+r.Intn(1000), 1+r.Intn(4), r.Intn(65536))
		count := 0
		for _, p := range packets {
			if _, send, both := tide.Answer(heads{head(of, 1<<40, 0)}, p); slices.Contains(append(send, both...), of) {
				count++
			}
		}
		if count != 1 {
			t.Fatalf("%v is in %d ranges", of, count)
		}
	}
}

// base returns a base with TIEs of those heads.
func base(t *testing.T, l []api.Head) *tiedb.Base {
	t.Helper()
	x, err := tiedb.New(4096)
	if err != api.OK {
		t.Fatal(err)
	}
	for _, h := range l {
		if _, err := x.Put(api.Tie{Head: h}, 0); err != api.OK {
			t.Fatal(err)
		}
	}
	return x
}

// sends puts TIEs of a base into another one.
func sends(t *testing.T, from, to *tiedb.Base, of ...api.TieId) {
	t.Helper()
	for _, of := range of {
		x, is := from.Get(of, 0)
		if n, err := to.Put(x, 0); !is || err != api.OK || n < 1 {
			t.Fatalf("%v was to be sent in vain: %v, %d, %v", of, is, n, err)
		}
	}
}

// syncs lets one base answer the packets of another one, and both do what the
// answers say; what is requested is so by a TIRE of the Ids alone.
func syncs(t *testing.T, tells, hears *tiedb.Base, per int) {
	t.Helper()
	packets, err := tide.Describe(tells.Heads(0), per)
	if err != api.OK {
		t.Fatal(err)
	}
	for _, p := range packets {
		ask, send, both := tide.Answer(hears.Heads(0), p)
		for _, of := range both {
			x, isX := tells.Get(of, 0)
			y, isY := hears.Get(of, 0)
			if !isX || !isY || tie.Newer(x.Head, y.Head) != 0 {
				t.Fatalf("%v is not known at both ends", of)
			}
		}
		sends(t, hears, tells, send...)
		for group := range slices.Chunk(ask, 64) {
			request := ofTire()
			for _, h := range group {
				request.Heads = append(request.Heads, head(h.Id, 0, 0))
			}
			none, requested, _ := tide.Answer(tells.Heads(0), request)
			if len(none) != 0 || len(requested) != len(group) {
				t.Fatalf("of %v, %v are sent, and %v are requested", group, requested, none)
			}
			sends(t, tells, hears, requested...)
		}
	}
}

// If one node answers the packets of another one, and both do what the answers
// say, both know the newest TIE for each Id, and have no more to tell.
func TestBothKnowTheNewest(t *testing.T) {
	r := rand.New(rand.NewSource(7))
	random := func() []api.Head {
		var l []api.Head
		for _, h := range shuffled(r, headsOf(300))[:r.Intn(200)] {
			l = append(l, head(h.Id, 1+r.Intn(3), 1+r.Intn(4)*150+r.Intn(3)))
		}
		return l
	}
	for range 100 {
		l, m := random(), random()
		x, y := base(t, l), base(t, m)
		per := 1 + r.Intn(64)
		syncs(t, x, y, per)
		for _, h := range tie.Merge(l, m) {
			for _, end := range []*tiedb.Base{x, y} {
				if got, is := end.Get(h.Id, 0); !is || tie.Newer(got.Head, h) != 0 {
					t.Fatalf("%v is known of %v: %v", got, h, is)
				}
			}
		}
		if n := len(tie.Merge(l, m)); x.Len() != n || y.Len() != n {
			t.Fatalf("%d and %d TIEs are known, of %d", x.Len(), y.Len(), n)
		}
		for _, ends := range [][2]*tiedb.Base{{x, y}, {y, x}} {
			for _, p := range describes(t, ends[0].Heads(0), per) {
				answers(t, ends[1].Heads(0), p, nil, nil, idsOf(p.Heads))
			}
		}
	}
}

// idsOf returns the Ids of heads.
func idsOf(l []api.Head) ids {
	var of ids
	for _, h := range l {
		of = append(of, h.Id)
	}
	return of
}

// Answering descriptions of two whole bases ends soon.
func TestWholeBases(t *testing.T) {
	r := rand.New(rand.NewSource(8))
	l := headsOf(4096)
	own := shuffled(r, l)
	for _, p := range describes(t, l, 16) {
		answers(t, own, p, nil, nil, idsOf(p.Heads))
	}
}

// taken returns heads of which each six bytes tell one, not always valid.
func taken(b []byte) []api.Head {
	var l []api.Head
	for x := range slices.Chunk(b[:len(b)/6*6], 6) {
		l = append(l, head(id(int(x[0]%4), int(x[1]%4), int(x[2]%6), int(x[3])-1), int(x[4])-1, int(x[5])*3-1))
	}
	return l
}

// FuzzDescribe searches for heads whose description is not what the chapter
// says.
func FuzzDescribe(f *testing.F) {
	f.Add([]byte{1, 1, 1, 1, 1, 50, 2, 1, 1, 1, 1, 50, 1, 1, 1, 1, 2, 50}, 1)
	f.Add([]byte{}, 64)
	f.Add([]byte{0, 1, 1, 1, 1, 50}, 65)
	f.Fuzz(func(t *testing.T, b []byte, per int) {
		l := taken(b)
		if per < 1 || per > 64 || slices.ContainsFunc(l, func(h api.Head) bool { return !wire.Right(ofTire(h)) }) {
			refuses(t, l, per)
			return
		}
		describes(t, l, per)
	})
}

// FuzzAnswer searches for heads and a packet whose answer is not what the
// chapter says: two bytes tell which packet it is, and its range.
func FuzzAnswer(f *testing.F) {
	f.Add([]byte{1, 1, 1, 1, 1, 50, 2, 1, 1, 1, 1, 50}, []byte{1, 1, 1, 1, 2, 50, 2, 2, 1, 1, 1, 50}, 3, byte(0), byte(1))
	f.Add([]byte{1, 1, 1, 1, 1, 50}, []byte{1, 1, 1, 1, 1, 150}, 4, byte(0), byte(0))
	f.Add([]byte{}, []byte{0, 0, 0, 0, 0, 0}, 3, byte(9), byte(8))
	f.Fuzz(func(t *testing.T, own, told []byte, kind int, from, to byte) {
		p := api.Packet{Kind: kind, Heads: taken(told)}
		if kind != api.KindTire {
			p.From = id(int(from%4), int(from/4%4), int(from/16%4), int(from/64))
			p.To = id(int(to%4), int(to/4%4), int(to/16%4), int(to/64))
		}
		answersSo(t, taken(own), p)
	})
}
