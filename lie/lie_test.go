package lie_test

import (
	"math"
	"math/rand"
	"slices"
	"testing"

	"selvage/api"
	"selvage/lie"
	"selvage/wire"
)

// far are numbers that no field may have.
var far = []int{1 << 16, 1<<32 + 1, 1<<32 - 1, math.MaxInt32, math.MinInt32, math.MaxInt - 1, math.MaxInt, math.MinInt + 1, math.MinInt}

// notTimes are numbers that are no times.
var notTimes = []int{-1, -2, api.MaxTime + 1, api.MaxTime + 2, math.MaxInt, math.MinInt}

// own is the port of most tests.
func own() api.Port { return api.Port{Node: 5, Level: 3, Pod: 2, Mtu: 1400, Link: 7, Hold: 4} }

// heard is what another end says that hears that port's end, whose nonce is 1.
func heard() api.Lie {
	return api.Lie{Node: 9, Level: 4, Pod: 2, Mtu: 1400, Link: 8, Nonce: 600, Seen: 5, SeenLink: 7, SeenNonce: 1, Hold: 10}
}

// otherOf returns the neighbor that has said x.
func otherOf(x api.Lie) api.Other {
	return api.Other{Node: x.Node, Link: x.Link, Level: x.Level, Nonce: x.Nonce}
}

// end returns an end with that port.
func end(t *testing.T, p api.Port) *lie.End {
	t.Helper()
	e, err := lie.New(p)
	if err != api.OK || e == nil {
		t.Fatalf("New(%v) = %v, %v", p, e, err)
	}
	return e
}

// take checks what Take returns.
func take(t *testing.T, e *lie.End, x api.Lie, now int, want api.Errno) {
	t.Helper()
	if got := e.Take(x, now); got != want {
		t.Fatalf("Take(%v, %d) = %v, want %v", x, now, got, want)
	}
}

// tick checks that Tick returns OK.
func tick(t *testing.T, e *lie.End, now int) {
	t.Helper()
	if got := e.Tick(now); got != api.OK {
		t.Fatalf("Tick(%d) = %v", now, got)
	}
}

// ticks lets an end tick so often, all at one time.
func ticks(t *testing.T, e *lie.End, n, now int) {
	t.Helper()
	for range n {
		tick(t, e, now)
	}
}

// is checks the state of an end, and its neighbor, the zero one for none.
func is(t *testing.T, e *lie.End, state int, o api.Other) {
	t.Helper()
	if got := e.State(); got != state {
		t.Fatalf("State = %d, want %d", got, state)
	}
	if got, there := e.Other(); got != o || there != (o != (api.Other{})) {
		t.Fatalf("Other = %v, %v, want %v", got, there, o)
	}
	x := e.Say()
	if x.Seen != o.Node || x.SeenLink != o.Link || x.SeenNonce != o.Nonce {
		t.Fatalf("Say = %v, the neighbor is %v", x, o)
	}
}

// ends checks that a copy of an end is OneWay from the time until on, and not
// ahead of it.
func ends(t *testing.T, e *lie.End, until int) {
	t.Helper()
	state := e.State()
	o, _ := e.Other()
	for _, now := range []int{0, until - 2, until - 1} {
		if c := *e; 0 <= now && now < until {
			tick(t, &c, now)
			is(t, &c, state, o)
		}
	}
	for _, now := range []int{until, until + 1, api.MaxTime} {
		if c := *e; now <= api.MaxTime {
			tick(t, &c, now)
			is(t, &c, api.OneWay, api.Other{})
		}
	}
}

// P9.1: Accepts

// near reports whether two small levels may be those of neighbors.
func near(a, b int) bool {
	if a < 0 || b < 0 {
		return false
	}
	byOne := a == b+1 || b == a+1
	oneLeaf := a*b == 0 && a+b != 0
	same := a == b && a*b != 0
	return byOne || oneLeaf || same
}

func TestAcceptsLevels(t *testing.T) {
	for a := -3; a <= 30; a++ {
		for b := -3; b <= 30; b++ {
			p, x := own(), heard()
			p.Level, x.Level = a, b
			if got := lie.Accepts(p, x); got != near(a, b) {
				t.Errorf("the levels %d and %d: %v", a, b, got)
			}
		}
	}
	for _, y := range []struct {
		a, b int
		want bool
	}{
		{1, 2, true}, {2, 1, true}, {1, 3, false}, {3, 1, false}, {0, 3, true}, {3, 0, true}, {0, 1, true}, {1, 0, true}, {0, 0, false},
		{1, 1, true}, {24, 24, true}, {24, 0, true}, {0, 24, true}, {24, 22, false}, {-1, 0, false}, {0, -1, false}, {-1, -1, false},
		{-1, 1, false}, {1, -1, false}, {-2, -1, false}, {math.MaxInt, math.MaxInt, true}, {math.MaxInt, math.MaxInt - 1, true},
		{math.MaxInt - 1, math.MaxInt, true}, {math.MaxInt, math.MaxInt - 2, false}, {math.MaxInt, 0, true}, {0, math.MaxInt, true},
		{math.MaxInt, math.MinInt, false}, {math.MinInt, math.MaxInt, false}, {math.MinInt, math.MinInt, false}, {0, math.MinInt, false},
		{math.MinInt, 0, false}, {1, math.MinInt, false}, {math.MaxInt, -1, false}, {1, 1<<32 + 1, false}, {0, 1 << 32, true}, {1 << 32, 1 << 32, true},
	} {
		p, x := own(), heard()
		p.Level, x.Level = y.a, y.b
		if got := lie.Accepts(p, x); got != y.want {
			t.Errorf("the levels %d and %d: %v", y.a, y.b, got)
		}
	}
}

func TestAcceptsPods(t *testing.T) {
	numbers := append([]int{0, 1, 2, 3, -1, 65535}, far...)
	for _, a := range numbers {
		for _, b := range numbers {
			p, x := own(), heard()
			p.Pod, x.Pod = a, b
			if got, want := lie.Accepts(p, x), a == b || a == 0 || b == 0; got != want {
				t.Errorf("the pods %d and %d: %v", a, b, got)
			}
		}
	}
}

func TestAcceptsNodesAndMtus(t *testing.T) {
	numbers := append([]int{0, 1, 2, 1000, 1400, -1, 65535}, far...)
	for _, a := range numbers {
		for _, b := range numbers {
			p, x := own(), heard()
			p.Node, x.Node = a, b
			if got := lie.Accepts(p, x); got != (a != b) {
				t.Errorf("the nodes %d and %d: %v", a, b, got)
			}
			p, x = own(), heard()
			p.Mtu, x.Mtu = a, b
			if got := lie.Accepts(p, x); got != (a == b) {
				t.Errorf("the Mtus %d and %d: %v", a, b, got)
			}
		}
	}
}

// What the chapter does not name does not count, be it valid or not.
func TestAcceptsNothingElse(t *testing.T) {
	for _, n := range append([]int{0, 1, 5, 7, 9, -1}, far...) {
		p, x := own(), heard()
		p.Link, p.Hold = n, n
		x.Link, x.Nonce, x.Seen, x.SeenLink, x.SeenNonce, x.Hold = n, n, n, n, n, n
		for range 4 {
			if !lie.Accepts(p, x) {
				t.Errorf("Accepts(%v, %v) = false", p, x)
			}
			x.Repeat, x.NoOffer = x.NoOffer, !x.Repeat
		}
	}
	if lie.Accepts(api.Port{}, api.Lie{}) || !lie.Accepts(api.Port{Node: -1}, api.Lie{Level: 1}) {
		t.Error("zero ones")
	}
}

// P9.2: New

// field is a number, and what it may be.
type field struct {
	n           *int
	least, most int
}

// portFields returns the fields of a port.
func portFields(p *api.Port) []field {
	return []field{{&p.Node, 1, 1000}, {&p.Level, -1, 24}, {&p.Pod, 0, 65535}, {&p.Mtu, 0, 65535}, {&p.Link, 0, 65535}, {&p.Hold, 1, 1000}}
}

func TestNew(t *testing.T) {
	p := own()
	for i := range portFields(&p) {
		p := own()
		f := portFields(&p)[i]
		for _, n := range []int{f.least, f.least + 1, f.most - 1, f.most} {
			*f.n = n
			e := end(t, p)
			is(t, e, api.OneWay, api.Other{})
			if x, want := e.Say(), (api.Lie{Node: p.Node, Level: p.Level, Pod: p.Pod, Mtu: p.Mtu, Link: p.Link, Nonce: 1, Hold: p.Hold}); x != want {
				t.Errorf("Say = %v, want %v", x, want)
			}
		}
		for _, n := range append([]int{f.least - 1, f.least - 2, f.most + 1, f.most + 2}, far...) {
			*f.n = n
			if e, err := lie.New(p); e != nil || err != api.ErrArg {
				t.Errorf("New(%v) = %v, %v", p, e, err)
			}
		}
	}
	for _, p := range []api.Port{{}, {Node: 1}, {Hold: 1}, {Node: -1, Level: -1, Pod: -1, Mtu: -1, Link: -1, Hold: -1}} {
		if e, err := lie.New(p); e != nil || err != api.ErrArg {
			t.Errorf("New(%v) = %v, %v", p, e, err)
		}
	}
	end(t, api.Port{Node: 1, Hold: 1})
	end(t, api.Port{Node: 1000, Level: 24, Pod: 65535, Mtu: 65535, Link: 65535, Hold: 1000})
}

// R4: an end is its own.
func TestTwoEnds(t *testing.T) {
	a, b := end(t, own()), end(t, own())
	take(t, a, heard(), 0, api.OK)
	tick(t, a, 1)
	if a.Level(4) != api.OK {
		t.Error("Level")
	}
	is(t, b, api.OneWay, api.Other{})
	if x := b.Say(); x.Nonce != 1 || x.Level != 3 {
		t.Errorf("Say = %v of the other end", x)
	}
}

// P9.2: Level

func TestLevel(t *testing.T) {
	for from := -1; from <= 24; from++ {
		for to := -1; to <= 24; to++ {
			p, x := own(), heard()
			p.Level, x.Level = from, max(from, 1)
			e := end(t, p)
			tick(t, e, 0)
			e.Take(x, 0)
			was := *e
			if got := e.Level(to); got != api.OK {
				t.Fatalf("Level(%d) = %v", to, got)
			}
			if from == to {
				if *e != was {
					t.Fatalf("Level(%d) changed an end of that level", to)
				}
				continue
			}
			is(t, e, api.OneWay, api.Other{})
			if x := e.Say(); x.Level != to || x.Nonce != 2 || x.Node != p.Node || x.Link != p.Link || x.Hold != p.Hold || x.Pod != p.Pod || x.Mtu != p.Mtu {
				t.Fatalf("Say = %v after Level(%d)", x, to)
			}
		}
	}
}

func TestLevelOfWrong(t *testing.T) {
	e := end(t, own())
	take(t, e, heard(), 0, api.OK)
	was := *e
	for _, n := range append([]int{-2, -3, 25, 26, 1<<32 + 3}, far...) {
		if got := e.Level(n); got != api.ErrArg || *e != was {
			t.Errorf("Level(%d) = %v, the end is %v, it was %v", n, got, *e, was)
		}
	}
	is(t, e, api.ThreeWay, otherOf(heard()))
}

// From each state, another level leads to OneWay, and so does the way back; what
// is accepted hangs on the new level.
func TestLevelOfEachState(t *testing.T) {
	for state, x := range eachState() {
		e := end(t, own())
		for _, y := range x {
			take(t, e, y, 5, api.OK)
		}
		if e.State() != state {
			t.Fatalf("State = %d, want %d", e.State(), state)
		}
		e.Level(3)
		if e.State() != state {
			t.Fatalf("State = %d after Level of the same, want %d", e.State(), state)
		}
		e.Level(9)
		is(t, e, api.OneWay, api.Other{})
		take(t, e, heard(), 5, api.ErrOld)
		is(t, e, api.OneWay, api.Other{})
		e.Level(3)
		is(t, e, api.OneWay, api.Other{})
		take(t, e, heard(), 5, api.OK)
		is(t, e, api.ThreeWay, otherOf(heard()))
	}
}

// eachState returns for each state what an end hears that is in it then.
func eachState() map[int][]api.Lie {
	x, y := heard(), heard()
	x.Seen = 0
	y.Link = 1
	return map[int][]api.Lie{api.OneWay: nil, api.TwoWay: {x}, api.ThreeWay: {heard()}, api.Multiple: {y, heard()}}
}

// P9.3: Take

func TestTake(t *testing.T) {
	x := heard()
	for _, y := range []struct {
		seen, link, nonce, state int
	}{
		{5, 7, 1, api.ThreeWay}, {0, 0, 0, api.TwoWay}, {5, 7, 0, api.TwoWay}, {5, 7, 2, api.TwoWay}, {5, 7, 65535, api.ThreeWay},
		{4, 7, 1, api.TwoWay}, {6, 7, 1, api.TwoWay}, {9, 8, 1, api.TwoWay}, {5, 6, 1, api.TwoWay}, {5, 8, 1, api.TwoWay}, {7, 5, 1, api.TwoWay},
		{5, 0, 1, api.TwoWay}, {0, 7, 1, api.TwoWay},
	} {
		x.Seen, x.SeenLink, x.SeenNonce = y.seen, y.link, y.nonce
		e := end(t, own())
		take(t, e, x, 100, api.OK)
		is(t, e, y.state, otherOf(x))
		ends(t, e, 110)
	}
}

// Of each own nonce, what was seen may be up to 16 nonces old, across the end of
// their cycle, too; what was not yet said is not recent.
func TestTakeOfNonces(t *testing.T) {
	e, x := end(t, own()), heard()
	for said := range 65535 * 2 {
		nonce := said%65535 + 1
		if e.Say().Nonce != nonce {
			t.Fatalf("the nonce is %d, want %d", e.Say().Nonce, nonce)
		}
		if nonce < 40 || nonce > 65500 || nonce%4000 == 0 {
			for old := -3; old < 30; old++ {
				x.SeenNonce = (nonce-old-1+65535)%65535 + 1
				take(t, e, x, 0, api.OK)
				want := api.TwoWay
				if 0 <= old && old <= 16 {
					want = api.ThreeWay
				}
				is(t, e, want, otherOf(x))
			}
			x.SeenNonce = 0
			take(t, e, x, 0, api.OK)
			is(t, e, api.TwoWay, otherOf(x))
		}
		tick(t, e, 0)
	}
}

// What is heard last counts: the state, the neighbor and the time.
func TestTakeAgain(t *testing.T) {
	e := end(t, own())
	x := heard()
	take(t, e, x, 10, api.OK)
	is(t, e, api.ThreeWay, otherOf(x))
	x.Seen, x.Nonce = 0, 601
	take(t, e, x, 12, api.OK)
	is(t, e, api.TwoWay, otherOf(x))
	ends(t, e, 22)
	x.Seen, x.Nonce, x.Level, x.Hold = 5, 0, 2, 3
	take(t, e, x, 12, api.OK)
	is(t, e, api.ThreeWay, otherOf(x))
	ends(t, e, 15)
	x.Hold, x.Repeat, x.NoOffer, x.Pod = 0, true, true, 0
	take(t, e, x, 11, api.OK)
	is(t, e, api.ThreeWay, otherOf(x))
	ends(t, e, 11)
}

func TestTakeAtEdgesOfTime(t *testing.T) {
	for _, now := range []int{0, 1, 1 << 32, api.MaxTime - 65536, api.MaxTime - 65535, api.MaxTime - 1, api.MaxTime} {
		for _, hold := range []int{0, 1, 2, 1000, 1001, 65535} {
			e, x := end(t, own()), heard()
			x.Hold = hold
			take(t, e, x, now, api.OK)
			is(t, e, api.ThreeWay, otherOf(x))
			if now+hold <= api.MaxTime {
				ends(t, e, now+hold)
				continue
			}
			tick(t, e, api.MaxTime)
			is(t, e, api.ThreeWay, otherOf(x))
		}
	}
}

// A wrong time is told ahead of a wrong Lie, and nothing changes.
func TestTakeOfWrongTime(t *testing.T) {
	for _, l := range eachState() {
		e := end(t, own())
		for _, x := range l {
			take(t, e, x, 5, api.OK)
		}
		was := *e
		other := heard()
		other.Level = 20
		for _, x := range []api.Lie{heard(), other, {}} {
			for _, now := range notTimes {
				if take(t, e, x, now, api.ErrArg); *e != was {
					t.Fatalf("Take(%v, %d) changed the end", x, now)
				}
			}
		}
	}
}

// lieFields returns the fields of a Lie.
func lieFields(x *api.Lie) []field {
	return []field{{&x.Node, 1, 1000}, {&x.Level, -1, 24}, {&x.Pod, 0, 65535}, {&x.Mtu, 0, 65535}, {&x.Link, 0, 65535}, {&x.Nonce, 0, 65535},
		{&x.Seen, 0, 1000}, {&x.SeenLink, 0, 65535}, {&x.SeenNonce, 0, 65535}, {&x.Hold, 0, 65535}}
}

// A Lie that no packet may have is told ahead of one that is not accepted, and
// nothing changes, though it be the neighbor's.
func TestTakeOfWrongLie(t *testing.T) {
	for _, l := range eachState() {
		e := end(t, own())
		for _, x := range l {
			take(t, e, x, 5, api.OK)
		}
		was := *e
		for _, base := range []api.Lie{heard(), {Node: 9, Link: 8}} {
			for i := range lieFields(&base) {
				x := base
				f := lieFields(&x)[i]
				for _, n := range append([]int{f.least - 1, f.most + 1}, far...) {
					*f.n = n
					if take(t, e, x, 5, api.ErrForm); *e != was {
						t.Fatalf("Take(%v) changed the end", x)
					}
				}
			}
		}
		if take(t, e, api.Lie{}, 5, api.ErrForm); *e != was {
			t.Fatal("Take of a zero Lie changed the end")
		}
	}
}

// At the edges of what a Lie may hold it is taken.
func TestTakeOfEdges(t *testing.T) {
	for _, y := range []struct {
		p api.Port
		x api.Lie
	}{
		{api.Port{Node: 1, Hold: 1}, api.Lie{Node: 1000, Level: 24}},
		{api.Port{Node: 1000, Level: 24, Hold: 1}, api.Lie{Node: 1}},
		{api.Port{Node: 2, Level: 24, Pod: 65535, Mtu: 65535, Hold: 1}, api.Lie{Node: 1, Level: 24, Pod: 65535, Mtu: 65535, Link: 65535, Nonce: 65535, Seen: 1000, SeenLink: 65535, SeenNonce: 65535, Hold: 65535}},
	} {
		e := end(t, y.p)
		take(t, e, y.x, 0, api.OK)
		is(t, e, api.TwoWay, otherOf(y.x))
		ends(t, e, y.x.Hold)
	}
}

// refused returns what the port own does not accept, all of it valid.
func refused() []api.Lie {
	var l []api.Lie
	for range 8 {
		l = append(l, heard())
	}
	l[0].Node, l[1].Level, l[2].Level, l[3].Level = 5, 1, 5, -1
	l[4].Pod, l[5].Mtu, l[6].Mtu, l[7].Mtu = 3, 1399, 0, 1401
	return l
}

// What is not accepted ends what there was with its node and link, and nothing
// else.
func TestTakeOfRefused(t *testing.T) {
	for _, x := range refused() {
		for state, l := range eachState() {
			e := end(t, own())
			for _, y := range l {
				take(t, e, y, 5, api.OK)
			}
			was := *e
			for _, z := range []api.Lie{{Node: x.Node, Link: 9}, {Node: 8, Link: x.Link}, {Node: 8, Link: 9}, {Node: x.Link, Link: x.Node}} {
				y := x
				if y.Node != 5 {
					y.Node = z.Node
				}
				y.Link = z.Link
				if take(t, e, y, 5, api.ErrOld); *e != was {
					t.Fatalf("Take(%v) changed the end in state %d", y, state)
				}
			}
			take(t, e, x, 5, api.ErrOld)
			if x.Node == 5 || state == api.OneWay || state == api.Multiple {
				if *e != was {
					t.Fatalf("Take(%v) changed the end in state %d", x, state)
				}
				continue
			}
			is(t, e, api.OneWay, api.Other{})
			take(t, e, heard(), 6, api.OK)
			is(t, e, api.ThreeWay, otherOf(heard()))
			ends(t, e, 16)
		}
	}
}

// Who hears a second one hears none of both until four ticks are over.
func TestTakeOfSecond(t *testing.T) {
	for i := range 3 {
		for _, state := range []int{api.TwoWay, api.ThreeWay} {
			e, x := end(t, own()), heard()
			if state == api.TwoWay {
				x.SeenNonce = 0
			}
			take(t, e, x, 100, api.OK)
			is(t, e, state, otherOf(x))
			y := heard()
			y.Hold = 1000
			if i != 0 {
				y.Node = 10
			}
			if i != 1 {
				y.Link = 9
			}
			take(t, e, y, 103, api.OK)
			is(t, e, api.Multiple, api.Other{})
			ends(t, e, 107)
			was := *e
			for _, z := range append(refused(), x, y, heard()) {
				if take(t, e, z, 106, api.ErrOld); *e != was {
					t.Fatalf("Take(%v) changed an end that has heard two", z)
				}
			}
			tick(t, e, 106)
			is(t, e, api.Multiple, api.Other{})
			tick(t, e, 107)
			is(t, e, api.OneWay, api.Other{})
			take(t, e, y, 107, api.OK)
			is(t, e, api.ThreeWay, otherOf(y))
			ends(t, e, 1107)
		}
	}
}

// At the greatest time, an end that has heard two stays so.
func TestTakeOfSecondAtEdgesOfTime(t *testing.T) {
	for _, now := range []int{0, 1, api.MaxTime - 5, api.MaxTime - 4, api.MaxTime - 3, api.MaxTime} {
		e, y := end(t, own()), heard()
		take(t, e, y, now, api.OK)
		y.Link++
		take(t, e, y, now, api.OK)
		is(t, e, api.Multiple, api.Other{})
		if now+4 <= api.MaxTime {
			ends(t, e, now+4)
			continue
		}
		tick(t, e, api.MaxTime)
		is(t, e, api.Multiple, api.Other{})
	}
}

// P9.4: Tick

func TestTick(t *testing.T) {
	e := end(t, own())
	for i := range 3*65535 + 5 {
		if got, want := e.Say().Nonce, i%65535+1; got != want {
			t.Fatalf("the nonce is %d after %d ticks, want %d", got, i, want)
		}
		tick(t, e, i%7)
		is(t, e, api.OneWay, api.Other{})
	}
}

func TestTickOfWrongTime(t *testing.T) {
	for _, l := range eachState() {
		e := end(t, own())
		for _, x := range l {
			take(t, e, x, 0, api.OK)
		}
		was := *e
		for _, now := range notTimes {
			if got := e.Tick(now); got != api.ErrArg || *e != was {
				t.Fatalf("Tick(%d) = %v, the end is %v, it was %v", now, got, *e, was)
			}
		}
		for _, now := range []int{0, api.MaxTime} {
			tick(t, e, now)
		}
	}
}

// A tick at or after the time ends what there was, one ahead of it does not,
// whatever was ticked before; the nonce goes on.
func TestTickOfEachState(t *testing.T) {
	for state, l := range eachState() {
		e := end(t, own())
		for _, x := range l {
			take(t, e, x, 50, api.OK)
		}
		o, _ := e.Other()
		until := map[int]int{api.OneWay: 1 << 20, api.TwoWay: 60, api.ThreeWay: 60, api.Multiple: 54}[state]
		for i, now := range []int{50, until - 1, 0, until - 2, until - 1} {
			tick(t, e, now)
			is(t, e, state, o)
			if e.Say().Nonce != i+2 {
				t.Fatalf("the nonce is %d after %d ticks", e.Say().Nonce, i+1)
			}
		}
		tick(t, e, until)
		is(t, e, api.OneWay, api.Other{})
		tick(t, e, 0)
		is(t, e, api.OneWay, api.Other{})
		if e.Say().Nonce != 8 {
			t.Fatalf("the nonce is %d, want 8", e.Say().Nonce)
		}
		x := heard()
		take(t, e, x, 0, api.OK)
		is(t, e, api.ThreeWay, otherOf(x))
	}
}

// P9.4: Say, State and Other

func TestSay(t *testing.T) {
	p := api.Port{Node: 11, Level: 12, Pod: 13, Mtu: 14, Link: 15, Hold: 16}
	e := end(t, p)
	ticks(t, e, 16, 0)
	x := api.Lie{Node: 11, Level: 12, Pod: 13, Mtu: 14, Link: 15, Nonce: 17, Hold: 16}
	if got := e.Say(); got != x {
		t.Errorf("Say = %v, want %v", got, x)
	}
	take(t, e, api.Lie{Node: 21, Level: 11, Pod: 13, Mtu: 14, Link: 25, Nonce: 27, Hold: 99, Repeat: true, NoOffer: true}, 0, api.OK)
	x.Seen, x.SeenLink, x.SeenNonce = 21, 25, 27
	if got := e.Say(); got != x {
		t.Errorf("Say = %v, want %v", got, x)
	}
	if o, there := e.Other(); o != (api.Other{Node: 21, Link: 25, Level: 11, Nonce: 27}) || !there {
		t.Errorf("Other = %v, %v", o, there)
	}
	e.Level(10)
	x.Level, x.Seen, x.SeenLink, x.SeenNonce = 10, 0, 0, 0
	if got := e.Say(); got != x {
		t.Errorf("Say = %v, want %v", got, x)
	}
}

// A neighbor of which all but the node is 0 is one, too.
func TestOtherOfZeros(t *testing.T) {
	e := end(t, api.Port{Node: 2, Level: 1, Hold: 1})
	x := api.Lie{Node: 1}
	take(t, e, x, 3, api.OK)
	is(t, e, api.TwoWay, api.Other{Node: 1})
	x.Node = 3
	take(t, e, x, 0, api.OK)
	is(t, e, api.Multiple, api.Other{})
}

// What an end says of itself and of whom it hears changes nothing.
func TestSayStateAndOtherLeaveAll(t *testing.T) {
	for _, l := range eachState() {
		e := end(t, own())
		for _, x := range l {
			take(t, e, x, 0, api.OK)
		}
		was := *e
		for range 3 {
			e.Say()
			e.State()
			e.Other()
		}
		if *e != was {
			t.Error("Say, State or Other changed an end")
		}
	}
}

// P9.5

// ports returns ports of which some accept others.
func ports() []api.Port {
	var l []api.Port
	for _, node := range []int{1, 2} {
		for _, level := range []int{-1, 0, 1, 2, 24} {
			for _, pod := range []int{0, 1, 2} {
				for _, hold := range []int{2, 1000} {
					l = append(l, api.Port{Node: node, Level: level, Pod: pod, Mtu: 1400 + hold/1000, Link: level + 1, Hold: hold})
				}
			}
		}
	}
	return l
}

// round lets two ends tick and hear each other: each hears what the other one
// said ahead of hearing, or one hears what the other one says after hearing.
func round(t *testing.T, a, b *lie.End, now int, both bool) {
	t.Helper()
	tick(t, a, now)
	tick(t, b, now)
	x, y := a.Say(), b.Say()
	e := b.Take(x, now)
	if !both {
		y = b.Say()
	}
	f := a.Take(y, now)
	if e != f {
		t.Fatalf("the one Take returns %v, the other one %v", e, f)
	}
}

// The theorem in its own words.
func TestTwoRounds(t *testing.T) {
	for _, p := range ports() {
		for _, q := range ports() {
			for _, both := range []bool{true, false} {
				a, b := end(t, p), end(t, q)
				want := lie.Accepts(p, b.Say())
				if want != lie.Accepts(q, a.Say()) {
					t.Fatalf("one of %v and %v accepts the other one alone", p, q)
				}
				for now := range 20 {
					round(t, a, b, now, both)
					if is := a.State() == api.ThreeWay && b.State() == api.ThreeWay; now > 0 && is != want {
						t.Fatalf("%v and %v after %d rounds: %d, %d", p, q, now+1, a.State(), b.State())
					}
					if !want && (a.State() != api.OneWay || b.State() != api.OneWay) {
						t.Fatalf("%v and %v do not accept each other: %d, %d", p, q, a.State(), b.State())
					}
				}
			}
		}
	}
}

// Two ends go on past the last nonce, and past the last one again.
func TestRoundsPastLastNonce(t *testing.T) {
	q := own()
	q.Node, q.Level, q.Link, q.Hold = 6, 2, 1, 2
	a, b := end(t, own()), end(t, q)
	ticks(t, b, 1000, 0)
	for now := range 140000 {
		round(t, a, b, now, now%3 == 0)
		if now > 0 && (a.State() != api.ThreeWay || b.State() != api.ThreeWay) {
			t.Fatalf("%d, %d after %d rounds", a.State(), b.State(), now+1)
		}
	}
}

// Who is not heard any more is forgotten: by both in their time, though one of
// them hears yet.
func TestSilence(t *testing.T) {
	q := own()
	q.Node, q.Level, q.Hold = 6, 4, 2
	a, b := end(t, own()), end(t, q)
	for now := range 3 {
		round(t, a, b, now, true)
	}
	for now := 3; now < 30; now++ {
		tick(t, a, now)
		tick(t, b, now)
		b.Take(a.Say(), now)
		wantA, wantB := api.ThreeWay, api.ThreeWay
		if now >= 4 {
			wantA, wantB = api.OneWay, api.TwoWay
		}
		if a.State() != wantA || b.State() != wantB {
			t.Fatalf("%d, %d at %d, want %d, %d", a.State(), b.State(), now, wantA, wantB)
		}
	}
}

// model is what an end should be.
type model struct {
	p     api.Port
	nonce int
	from  []api.Lie // what it has heard last of its neighbor: nothing, or one
	three bool
	many  bool
	until int
}

func (m *model) state() int {
	switch {
	case m.many:
		return api.Multiple
	case len(m.from) == 0:
		return api.OneWay
	case m.three:
		return api.ThreeWay
	}
	return api.TwoWay
}

// recent reports whether the own nonce was n now or in one of the last 16 ticks.
func (m *model) recent(n int) bool {
	var l []int
	for old := range 17 {
		l = append(l, (m.nonce-1-old+65535)%65535+1)
	}
	return slices.Contains(l, n)
}

func (m *model) tick(now int) {
	m.nonce = m.nonce%65535 + 1
	if now >= m.until {
		m.from, m.many = nil, false
	}
}

func (m *model) level(level int) {
	if m.p.Level != level {
		m.p.Level, m.from, m.many = level, nil, false
	}
}

func (m *model) take(x api.Lie, now int) api.Errno {
	if now < 0 || now > 1<<40 {
		return api.ErrArg
	}
	if !wire.Right(api.Packet{Kind: api.KindLie, Lie: x}) {
		return api.ErrForm
	}
	same := len(m.from) > 0 && m.from[0].Node == x.Node && m.from[0].Link == x.Link
	pods := m.p.Pod == x.Pod || m.p.Pod*x.Pod == 0
	switch {
	case m.p.Node == x.Node || m.p.Mtu != x.Mtu || !pods || !near(m.p.Level, x.Level):
		if same {
			m.from = nil
		}
		return api.ErrOld
	case m.many:
		return api.ErrOld
	case len(m.from) > 0 && !same:
		m.from, m.many, m.until = nil, true, now+4
	default:
		m.from, m.until = []api.Lie{x}, now+x.Hold
		m.three = x.Seen == m.p.Node && x.SeenLink == m.p.Link && m.recent(x.SeenNonce)
	}
	return api.OK
}

// same checks that an end is what its model is, and says what may be sent.
func same(t *testing.T, e *lie.End, m *model) {
	t.Helper()
	var o api.Other
	if len(m.from) > 0 {
		o = otherOf(m.from[0])
	}
	is(t, e, m.state(), o)
	want := api.Lie{Node: m.p.Node, Level: m.p.Level, Pod: m.p.Pod, Mtu: m.p.Mtu, Link: m.p.Link, Nonce: m.nonce, Seen: o.Node, SeenLink: o.Link, SeenNonce: o.Nonce, Hold: m.p.Hold}
	if got := e.Say(); got != want {
		t.Fatalf("Say = %v, want %v", got, want)
	}
	if !wire.Right(api.Packet{Kind: api.KindLie, Lie: want}) {
		t.Fatalf("what an end says is not valid: %v", want)
	}
	if e.State() == api.ThreeWay && !lie.Accepts(m.p, m.from[0]) {
		t.Fatalf("an end of %v is ThreeWay with %v", m.p, m.from[0])
	}
}

// An end does for a long time what its model does.
func TestManySteps(t *testing.T) {
	r := rand.New(rand.NewSource(1))
	reached := map[int]int{}
	for range 200 {
		p := api.Port{Node: 1 + r.Intn(2), Level: r.Intn(4), Pod: r.Intn(2), Link: r.Intn(2), Hold: 1 + r.Intn(3)}
		e, m := end(t, p), &model{p: p, nonce: 1}
		for now := range 500 {
			switch r.Intn(12) {
			case 0:
				level := p.Level
				if r.Intn(3) == 0 {
					level = r.Intn(5) - 1
				}
				e.Level(level)
				m.level(level)
			case 1, 2, 3, 4:
				tick(t, e, now)
				m.tick(now)
			default:
				x := api.Lie{Node: 1 + r.Intn(2), Level: m.p.Level + r.Intn(2), Pod: r.Intn(8) / 6, Mtu: r.Intn(15) / 14, Link: r.Intn(8) / 6, Nonce: r.Intn(3),
					Seen: p.Node, SeenLink: p.Link, SeenNonce: max(1, m.nonce-r.Intn(18)), Hold: r.Intn(12), Repeat: r.Intn(2) == 0, NoOffer: r.Intn(2) == 0}
				if r.Intn(4) == 0 {
					f := lieFields(&x)[r.Intn(10)]
					*f.n = r.Intn(5) - 1
				}
				take(t, e, x, now, m.take(x, now))
			}
			same(t, e, m)
			reached[e.State()]++
		}
	}
	for _, state := range []int{api.OneWay, api.TwoWay, api.ThreeWay, api.Multiple} {
		if reached[state] < 1000 {
			t.Errorf("state %d was reached %d times alone", state, reached[state])
		}
	}
}

// After each of all lists of five steps out of eight, an end is what its model is.
func TestAllSteps(t *testing.T) {
	x, y, z, w := heard(), heard(), heard(), heard()
	x.Hold, y.Hold, z.Hold = 2, 2, 1
	y.Seen, y.Nonce = 0, 601
	z.Node = 10
	w.Level = 20
	do := []func(e *lie.End, m *model, now int) (api.Errno, api.Errno){
		func(e *lie.End, m *model, now int) (api.Errno, api.Errno) { m.tick(now); return e.Tick(now), api.OK },
		func(e *lie.End, m *model, now int) (api.Errno, api.Errno) { return e.Take(x, now), m.take(x, now) },
		func(e *lie.End, m *model, now int) (api.Errno, api.Errno) { return e.Take(y, now), m.take(y, now) },
		func(e *lie.End, m *model, now int) (api.Errno, api.Errno) { return e.Take(z, now), m.take(z, now) },
		func(e *lie.End, m *model, now int) (api.Errno, api.Errno) { return e.Take(w, now), m.take(w, now) },
		func(e *lie.End, m *model, now int) (api.Errno, api.Errno) { m.level(3); return e.Level(3), api.OK },
		func(e *lie.End, m *model, now int) (api.Errno, api.Errno) { m.level(5); return e.Level(5), api.OK },
		func(e *lie.End, m *model, now int) (api.Errno, api.Errno) {
			return e.Take(api.Lie{}, now), m.take(api.Lie{}, now)
		},
	}
	for what := range 1 << 15 {
		e, m := end(t, own()), &model{p: own(), nonce: 1}
		for now := range 5 {
			got, want := do[what>>(3*now)&7](e, m, now)
			if got != want {
				t.Fatalf("steps %o: %v, want %v", what, got, want)
			}
			same(t, e, m)
		}
	}
}

// FuzzTake searches for a port and for what it hears by which an end is not what
// its model is.
func FuzzTake(f *testing.F) {
	f.Add(5, 3, 2, 1400, 7, 4, 9, 4, 2, 1400, 8, 600, 5, 7, 1, 10, 100, 104)
	f.Add(5, 3, 2, 1400, 7, 4, 9, 4, 2, 1400, 8, 600, 5, 7, 65535, 10, 100, 110)
	f.Add(1, 0, 0, 0, 0, 1, 2, 24, 65535, 0, 0, 0, 1, 0, 1, 0, 1<<40, 1<<40)
	f.Fuzz(func(t *testing.T, node, level, pod, mtu, link, hold, xNode, xLevel, xPod, xMtu, xLink, nonce, seen, seenLink, seenNonce, xHold, now, later int) {
		p := api.Port{Node: node, Level: level, Pod: pod, Mtu: mtu, Link: link, Hold: hold}
		x := api.Lie{Node: xNode, Level: xLevel, Pod: xPod, Mtu: xMtu, Link: xLink, Nonce: nonce, Seen: seen, SeenLink: seenLink, SeenNonce: seenNonce, Hold: xHold}
		lie.Accepts(p, x)
		e, err := lie.New(p)
		if (e == nil) != (err != api.OK) {
			t.Fatalf("New(%v) = %v, %v", p, e, err)
		}
		if e == nil {
			return
		}
		m := &model{p: p, nonce: 1}
		take(t, e, x, now, m.take(x, now))
		same(t, e, m)
		if got, right := e.Tick(later), 0 <= later && later <= api.MaxTime; (got == api.OK) != right {
			t.Fatalf("Tick(%d) = %v", later, got)
		} else if right {
			m.tick(later)
		}
		same(t, e, m)
		x.Link ^= now & 1
		take(t, e, x, now, m.take(x, now))
		same(t, e, m)
		if got, right := e.Level(xLevel), -1 <= xLevel && xLevel <= 24; (got == api.OK) != right {
			t.Fatalf("Level(%d) = %v", xLevel, got)
		} else if right {
			m.level(xLevel)
		}
		same(t, e, m)
	})
}
