package ztp_test

import (
	"math"
	"math/rand"
	"slices"
	"testing"

	"selvage/api"
	"selvage/ztp"
)

// far are numbers that no argument may be.
var far = []int{1 << 16, 1<<32 + 1, 1<<32 - 1, math.MaxInt32, math.MinInt32, math.MaxInt - 1, math.MaxInt, math.MinInt + 1, math.MinInt}

// notTimes are numbers that are no times.
var notTimes = []int{-1, -2, api.MaxTime + 1, api.MaxTime + 2, math.MaxInt32 * 1024, math.MaxInt - 1, math.MaxInt, math.MinInt32, math.MinInt + 1, math.MinInt}

// links are those whose Quiet each test asks for.
var links = append([]int{-2, -1, 0, 1, 2, 3, 4, 5, 6, 62, 63, 64, 65, 65534, 65535}, far...)

// node returns what determines a level.
func node(t *testing.T, fixed int, leaf, top bool) *ztp.Ztp {
	t.Helper()
	z, err := ztp.New(fixed, leaf, top)
	if err != api.OK || z == nil {
		t.Fatalf("New(%d, %v, %v) = %v, %v", fixed, leaf, top, z, err)
	}
	return z
}

// derived returns what determines a level by offers.
func derived(t *testing.T) *ztp.Ztp {
	t.Helper()
	return node(t, -1, false, false)
}

// offer checks that Offer of a level returns OK.
func offer(t *testing.T, z *ztp.Ztp, link, level, now int) {
	t.Helper()
	offers(t, z, link, level, false, now, api.OK)
}

// offers checks what Offer returns.
func offers(t *testing.T, z *ztp.Ztp, link, level int, none bool, now int, want api.Errno) {
	t.Helper()
	if got := z.Offer(link, level, none, now); got != want {
		t.Fatalf("Offer(%d, %d, %v, %d) = %v, want %v", link, level, none, now, got, want)
	}
}

// tick checks that Tick returns OK.
func tick(t *testing.T, z *ztp.Ztp, now int) {
	t.Helper()
	if got := z.Tick(now); got != api.OK {
		t.Fatalf("Tick(%d) = %v", now, got)
	}
}

// is checks the level, the highest offer, and which links are quiet.
func is(t *testing.T, z *ztp.Ztp, level, best int, quiet ...int) {
	t.Helper()
	if got := z.Level(); got != level {
		t.Fatalf("Level = %d, want %d", got, level)
	}
	if got := z.Best(); got != best {
		t.Fatalf("Best = %d, want %d", got, best)
	}
	for _, link := range links {
		if got, want := z.Quiet(link), slices.Contains(quiet, link); got != want {
			t.Fatalf("Quiet(%d) = %v, want %v", link, got, want)
		}
	}
}

// P10.1: New

func TestNew(t *testing.T) {
	for fixed := -40; fixed <= 60; fixed++ {
		for what := range 4 {
			leaf, top := what&1 != 0, what&2 != 0
			want, level := api.ErrArg, 0
			switch {
			case fixed >= 0 && fixed <= 24 && what == 0:
				want, level = api.OK, fixed
			case fixed == -1 && what == 0:
				want, level = api.OK, -1
			case fixed == -1 && what == 1:
				want, level = api.OK, 0
			case fixed == -1 && what == 2:
				want, level = api.OK, 24
			}
			z, err := ztp.New(fixed, leaf, top)
			if err != want || (z == nil) != (want != api.OK) {
				t.Fatalf("New(%d, %v, %v) = %v, %v, want %v", fixed, leaf, top, z, err, want)
			}
			if z != nil {
				is(t, z, level, 0)
			}
		}
	}
	for _, fixed := range far {
		for what := range 4 {
			if z, err := ztp.New(fixed, what&1 != 0, what&2 != 0); z != nil || err != api.ErrArg {
				t.Errorf("New(%d) = %v, %v", fixed, z, err)
			}
		}
	}
}

// A new node is not in hold-down, and ticks without offers lead into none.
func TestNewAccepts(t *testing.T) {
	z := derived(t)
	offer(t, z, 1, 24, 0)
	is(t, z, -1, 24)
	tick(t, z, 0)
	is(t, z, 23, 24, 1)
	z = derived(t)
	for now := range 10 {
		tick(t, z, now)
		is(t, z, -1, 0)
	}
	offer(t, z, 1, 1, 10)
	tick(t, z, 10)
	is(t, z, 0, 1, 1)
}

// R4: a node is its own.
func TestTwoNodes(t *testing.T) {
	a, b := derived(t), derived(t)
	offer(t, a, 1, 9, 0)
	is(t, b, -1, 0)
	tick(t, a, 0)
	is(t, a, 8, 9, 1)
	is(t, b, -1, 0)
	offer(t, b, 2, 7, 1)
	tick(t, b, 1)
	is(t, a, 8, 9, 1)
	is(t, b, 6, 7, 2)
	tick(t, a, 4)
	is(t, a, -1, 0)
	is(t, b, 6, 7, 2)
}

// P10.2: Offer

func TestOffer(t *testing.T) {
	for _, link := range []int{0, 1, 2, 65534, 65535} {
		for level := -1; level <= 24; level++ {
			for _, now := range []int{0, 1, 1 << 32, api.MaxTime - 1, api.MaxTime} {
				for _, none := range []bool{false, true} {
					z := derived(t)
					offers(t, z, link, level, none, now, api.OK)
					if level < 1 || none {
						is(t, z, -1, 0)
						tick(t, z, now)
						is(t, z, -1, 0)
						continue
					}
					is(t, z, -1, level)
					tick(t, z, now)
					is(t, z, level-1, level, link)
				}
			}
		}
	}
}

func TestOfferOfWrong(t *testing.T) {
	wrong := [][3]int{{-1, -2, -1}, {65536, 25, api.MaxTime + 1}, {-1, 0, 0}, {1, -2, 0}, {1, 25, 0}}
	for _, n := range append([]int{-1, -2, 65536, 65537}, far...) {
		wrong = append(wrong, [3]int{n, 5, 0}, [3]int{n, 24, api.MaxTime})
	}
	for _, n := range append([]int{-2, -3, 25, 26, 1 << 32}, far...) {
		wrong = append(wrong, [3]int{1, n, 0}, [3]int{65535, n, api.MaxTime})
	}
	for _, n := range notTimes {
		wrong = append(wrong, [3]int{1, 5, n}, [3]int{1, 0, n}, [3]int{1, -1, n})
	}
	z := derived(t)
	offer(t, z, 1, 4, 0)
	offer(t, z, 2, 3, 0)
	tick(t, z, 0)
	for _, x := range wrong {
		for _, none := range []bool{false, true} {
			offers(t, z, x[0], x[1], none, x[2], api.ErrArg)
			is(t, z, 3, 4, 1)
		}
	}
	tick(t, z, 3)
	is(t, z, 3, 4, 1)
	tick(t, z, 4)
	is(t, z, -1, 0)
}

// An offer takes the place of the one of its link, be it higher, as high or lower;
// its time is that of the last one, be it later or earlier.
func TestOfferAgain(t *testing.T) {
	for level := 1; level <= 24; level++ {
		for _, now := range []int{10, 11, 13, 9, 0} {
			z := derived(t)
			offer(t, z, 1, 12, 10)
			offer(t, z, 1, level, now)
			is(t, z, -1, level)
			tick(t, z, now+3)
			is(t, z, level-1, level, 1)
			tick(t, z, now+4)
			is(t, z, -1, 0)
		}
	}
}

// An offer that is none takes the one of its link away, and no other.
func TestOfferTakesAway(t *testing.T) {
	for _, x := range []struct {
		level int
		none  bool
	}{{0, false}, {-1, false}, {0, true}, {-1, true}, {1, true}, {9, true}, {24, true}} {
		z := derived(t)
		offer(t, z, 1, 9, 0)
		offer(t, z, 2, 7, 0)
		offers(t, z, 3, x.level, x.none, 0, api.OK)
		is(t, z, -1, 9)
		tick(t, z, 0)
		is(t, z, 8, 9, 1)
		offers(t, z, 3, x.level, x.none, 1, api.OK)
		is(t, z, 8, 9, 1)
		offers(t, z, 1, x.level, x.none, 1, api.OK)
		is(t, z, 8, 7)
		tick(t, z, 1)
		is(t, z, -1, 7)
		tick(t, z, 3)
		is(t, z, -1, 7)
		tick(t, z, 4)
		is(t, z, -1, 0)
	}
}

// full returns a node all of whose 64 offers are of the time 5.
func full(t *testing.T) *ztp.Ztp {
	t.Helper()
	z := derived(t)
	for link := range 64 {
		offer(t, z, link, 1+link%7, 5)
	}
	is(t, z, -1, 7)
	return z
}

func TestOfferOfFull(t *testing.T) {
	z := full(t)
	for _, link := range []int{64, 65, 65535} {
		offers(t, z, link, 24, false, 5, api.ErrFull)
		is(t, z, -1, 7)
		offers(t, z, link, 25, false, 5, api.ErrArg)
		offers(t, z, link, 24, true, 5, api.OK)
		offers(t, z, link, 0, false, 5, api.OK)
		offers(t, z, link, -1, false, 5, api.OK)
		is(t, z, -1, 7)
	}
	offer(t, z, 63, 20, 5)
	offer(t, z, 0, 21, 5)
	is(t, z, -1, 21)
	offers(t, z, 64, 24, false, 5, api.ErrFull)
	offers(t, z, 3, 24, true, 5, api.OK)
	offer(t, z, 64, 24, 5)
	offers(t, z, 3, 24, false, 5, api.ErrFull)
	offer(t, z, 64, 22, 5)
	tick(t, z, 5)
	is(t, z, 21, 22, 64)
}

// Offers are removed by Tick, and until then there is no room for others.
func TestOfferOfFullLater(t *testing.T) {
	z := full(t)
	for _, now := range []int{5, 8, 9, 100, api.MaxTime} {
		offers(t, z, 64, 24, false, now, api.ErrFull)
		is(t, z, -1, 7)
	}
	tick(t, z, 8)
	offers(t, z, 64, 24, false, 8, api.ErrFull)
	is(t, z, 6, 7, 6, 62)
	tick(t, z, 9)
	is(t, z, -1, 0)
	for link := range 64 {
		offer(t, z, 100+link, 2, 9)
	}
	offers(t, z, 64, 24, false, 9, api.ErrFull)
	is(t, z, -1, 2)
}

// P10.3: Tick

func TestTickOfWrong(t *testing.T) {
	z := derived(t)
	offer(t, z, 1, 9, 5)
	offer(t, z, 2, 7, 7)
	wrong := func(level, best int, quiet ...int) {
		t.Helper()
		for _, now := range notTimes {
			if got := z.Tick(now); got != api.ErrArg {
				t.Fatalf("Tick(%d) = %v", now, got)
			}
			is(t, z, level, best, quiet...)
		}
	}
	wrong(-1, 9)
	tick(t, z, 5)
	wrong(8, 9, 1)
	tick(t, z, 9)
	wrong(-1, 7)
	offer(t, z, 2, 7, 10)
	tick(t, z, 11)
	wrong(-1, 7)
	tick(t, z, 12)
	wrong(6, 7, 2)
}

// An offer is valid for 4 ticks, and its last one is that of 3 later.
func TestTickRemoves(t *testing.T) {
	for _, at := range []int{0, 1, 2, 3, 4, 5, 1<<32 - 2, 1 << 32, api.MaxTime - 4} {
		for later := range 9 {
			now := at + later
			if now > api.MaxTime {
				continue
			}
			z := derived(t)
			offer(t, z, 3, 6, at)
			tick(t, z, now)
			if later < 4 {
				is(t, z, 5, 6, 3)
			} else {
				is(t, z, -1, 0)
			}
		}
	}
	for at := api.MaxTime - 3; at <= api.MaxTime; at++ {
		z := derived(t)
		offer(t, z, 3, 6, at)
		tick(t, z, api.MaxTime)
		is(t, z, 5, 6, 3)
	}
}

// Each offer has its own time; at a time ahead of it, it is valid as well.
func TestTickRemovesEach(t *testing.T) {
	z := derived(t)
	for link := range 6 {
		offer(t, z, link, 4+link, 20-link)
	}
	tick(t, z, 3)
	is(t, z, 8, 9, 5)
	for i, best := range []int{9, 8, 7, 6} {
		tick(t, z, 18+i)
		is(t, z, []int{8, -1, -1, -1}[i], best, [][]int{{5}, nil, nil, nil}[i]...)
	}
	tick(t, z, 22)
	is(t, z, 4, 5, 1)
	tick(t, z, 23)
	is(t, z, -1, 4)
	tick(t, z, 24)
	is(t, z, -1, 0)
}

// Of offers that are not valid any more, Tick removes all, not the highest alone.
func TestTickRemovesAll(t *testing.T) {
	z := full(t)
	offer(t, z, 10, 1, 6)
	tick(t, z, 9)
	is(t, z, 0, 1, 10)
	for link := range 63 {
		offer(t, z, 100+link, 1, 9)
	}
	offers(t, z, 200, 1, false, 9, api.ErrFull)
	for link := range 64 {
		if got := z.Quiet(link); got != (link == 10) {
			t.Errorf("Quiet(%d) = %v", link, got)
		}
	}
}

// A higher offer is accepted at once, and so is one of the accepted level over
// another link.
func TestTickRaises(t *testing.T) {
	z := derived(t)
	for level := 1; level <= 24; level++ {
		offer(t, z, level%5, level, level)
		tick(t, z, level)
		is(t, z, level-1, level, level%5)
	}
	offer(t, z, 5, 24, 27)
	tick(t, z, 27)
	is(t, z, 23, 24, 4, 5)
	tick(t, z, 28)
	is(t, z, 23, 24, 5)
	tick(t, z, 31)
	is(t, z, -1, 0)
}

// A lower offer is accepted when hold-down is over, and nothing until then.
func TestTickLowers(t *testing.T) {
	for from := 2; from <= 24; from++ {
		for to := range from {
			z := derived(t)
			offer(t, z, 1, from, 100)
			tick(t, z, 100)
			is(t, z, from-1, from, 1)
			offer(t, z, 1, to, 101)
			is(t, z, from-1, to)
			for now := 101; now <= 103; now++ {
				tick(t, z, now)
				is(t, z, -1, to)
			}
			tick(t, z, 104)
			if to == 0 {
				is(t, z, -1, 0)
			} else {
				is(t, z, to-1, to, 1)
			}
		}
	}
}

// falls returns a node that is in hold-down until now + 3, without offers.
func falls(t *testing.T, now int) *ztp.Ztp {
	t.Helper()
	z := derived(t)
	offer(t, z, 1, 9, now)
	tick(t, z, now)
	offer(t, z, 1, 0, now)
	tick(t, z, now)
	is(t, z, -1, 0)
	return z
}

// Hold-down ends by the time, not by the number of ticks; what is highest then is
// accepted, be it lower or higher than what was accepted ahead of it.
func TestTickEndsHoldDown(t *testing.T) {
	for _, at := range []int{0, 1, 50, 1 << 32, api.MaxTime - 3} {
		for later := -1; later <= 6; later++ {
			for _, level := range []int{1, 8, 9, 10, 24} {
				now := at + later
				if now < 0 || now > api.MaxTime {
					continue
				}
				z := falls(t, at)
				offer(t, z, 2, level, now)
				for range 5 {
					tick(t, z, now)
					if later < 3 {
						is(t, z, -1, level)
					} else {
						is(t, z, level-1, level, 2)
					}
				}
			}
		}
	}
	for at := api.MaxTime - 2; at <= api.MaxTime; at++ {
		z := falls(t, at)
		offer(t, z, 2, 9, api.MaxTime)
		tick(t, z, api.MaxTime)
		is(t, z, -1, 9)
	}
}

// What rises and falls in hold-down does not prolong it.
func TestTickInHoldDown(t *testing.T) {
	z := falls(t, 10)
	offer(t, z, 1, 24, 11)
	tick(t, z, 11)
	is(t, z, -1, 24)
	offer(t, z, 1, 3, 12)
	tick(t, z, 12)
	is(t, z, -1, 3)
	offer(t, z, 2, 5, 12)
	tick(t, z, 12)
	is(t, z, -1, 5)
	offer(t, z, 2, 0, 13)
	tick(t, z, 13)
	is(t, z, 2, 3, 1)
}

// After hold-down, a fall leads into another one, and a rise is accepted; that
// without offers does not lead into another one.
func TestTickAfterHoldDown(t *testing.T) {
	z := falls(t, 10)
	offer(t, z, 1, 5, 13)
	tick(t, z, 13)
	is(t, z, 4, 5, 1)
	offer(t, z, 1, 4, 13)
	tick(t, z, 13)
	is(t, z, -1, 4)
	offer(t, z, 1, 4, 15)
	tick(t, z, 15)
	is(t, z, -1, 4)
	tick(t, z, 16)
	is(t, z, 3, 4, 1)
	offer(t, z, 2, 6, 16)
	tick(t, z, 16)
	is(t, z, 5, 6, 2)

	z = falls(t, 10)
	tick(t, z, 13)
	is(t, z, -1, 0)
	offer(t, z, 1, 2, 13)
	tick(t, z, 13)
	is(t, z, 1, 2, 1)
	for _, now := range []int{12, 9, 0} {
		offer(t, z, 1, 2, now)
		offer(t, z, 2, 3+13-now, now)
		tick(t, z, now)
		is(t, z, 2+13-now, 3+13-now, 2)
	}
}

// That an offer runs out is a fall as well, even if it comes again at the same
// time as the Tick that has noticed.
func TestTickOfLost(t *testing.T) {
	z := derived(t)
	offer(t, z, 1, 9, 0)
	offer(t, z, 2, 9, 1)
	tick(t, z, 1)
	is(t, z, 8, 9, 1, 2)
	tick(t, z, 4)
	is(t, z, 8, 9, 2)
	tick(t, z, 5)
	is(t, z, -1, 0)
	offer(t, z, 2, 9, 5)
	tick(t, z, 5)
	is(t, z, -1, 9)
	tick(t, z, 7)
	is(t, z, -1, 9)
	tick(t, z, 8)
	is(t, z, 8, 9, 2)
}

// What falls and rises again between two ticks has not fallen.
func TestTickSeesNothingBetween(t *testing.T) {
	z := derived(t)
	offer(t, z, 1, 9, 0)
	tick(t, z, 0)
	offer(t, z, 1, 3, 0)
	is(t, z, 8, 3)
	offer(t, z, 1, 0, 0)
	is(t, z, 8, 0)
	offer(t, z, 2, 9, 0)
	is(t, z, 8, 9, 2)
	tick(t, z, 1)
	is(t, z, 8, 9, 2)
	offer(t, z, 2, 24, 1)
	is(t, z, 8, 24)
	offer(t, z, 2, 9, 1)
	is(t, z, 8, 9, 2)
	tick(t, z, 2)
	is(t, z, 8, 9, 2)
}

// P10.3: Best

func TestBest(t *testing.T) {
	z := derived(t)
	for _, x := range []struct{ link, level, best int }{
		{0, 3, 3}, {1, 3, 3}, {2, 2, 3}, {3, 5, 5}, {3, 4, 4}, {3, 0, 3}, {0, 1, 3}, {1, 1, 2}, {2, 0, 1}, {0, 0, 1}, {1, -1, 0}, {65535, 24, 24}, {65535, 0, 0},
	} {
		offer(t, z, x.link, x.level, 0)
		is(t, z, -1, x.best)
	}
	for high := range 64 {
		z := derived(t)
		for link := range 64 {
			level := 1 + link%9
			if link == high {
				level = 10
			}
			offer(t, z, link, level, 0)
		}
		is(t, z, -1, 10)
		offer(t, z, high, 0, 0)
		is(t, z, -1, 9)
	}
}

// P10.4: Level

// told are the nodes whose level hangs on no offer.
func told(t *testing.T) map[*ztp.Ztp]int {
	t.Helper()
	m := map[*ztp.Ztp]int{node(t, -1, true, false): 0, node(t, -1, false, true): 24}
	for fixed := range 25 {
		m[node(t, fixed, false, false)] = fixed
	}
	return m
}

func TestLevelOfTold(t *testing.T) {
	for z, level := range told(t) {
		is(t, z, level, 0)
		offer(t, z, 1, 20, 0)
		offer(t, z, 2, level, 0)
		is(t, z, level, max(20, level))
		tick(t, z, 0)
		is(t, z, level, max(20, level))
		offers(t, z, 2, level, true, 0, api.OK)
		offer(t, z, 1, 9, 0)
		is(t, z, level, 9)
		for now, best := range []int{9, 9, 9, 9, 0, 0, 0, 0, 0} {
			tick(t, z, now)
			is(t, z, level, best)
		}
		offers(t, z, 1, 25, false, 0, api.ErrArg)
		if z.Tick(-1) != api.ErrArg {
			t.Error("Tick(-1)")
		}
		for link := range 64 {
			offer(t, z, link, 1, 10)
		}
		offers(t, z, 64, 1, false, 10, api.ErrFull)
		is(t, z, level, 1)
	}
}

func TestLevelOfDerived(t *testing.T) {
	z := derived(t)
	offer(t, z, 1, 24, 0)
	tick(t, z, 0)
	if got := z.Level(); got != 23 {
		t.Errorf("Level = %d", got)
	}
	z = derived(t)
	offer(t, z, 1, 1, 0)
	tick(t, z, 0)
	if got := z.Level(); got != 0 {
		t.Errorf("Level = %d", got)
	}
}

// P10.4: Quiet

func TestQuiet(t *testing.T) {
	z := derived(t)
	offer(t, z, 1, 9, 0)
	offer(t, z, 2, 8, 0)
	offer(t, z, 3, 9, 0)
	offers(t, z, 4, 9, true, 0, api.OK)
	offer(t, z, 65535, 9, 0)
	is(t, z, -1, 9)
	tick(t, z, 0)
	is(t, z, 8, 9, 1, 3, 65535)
	offer(t, z, 1, 10, 1)
	offer(t, z, 2, 9, 1)
	offer(t, z, 3, 0, 1)
	is(t, z, 8, 10, 2, 65535)
	tick(t, z, 1)
	is(t, z, 9, 10, 1)
}

func TestLevelBestAndQuietLeaveAll(t *testing.T) {
	z := derived(t)
	offer(t, z, 1, 9, 0)
	tick(t, z, 0)
	for range 3 {
		is(t, z, 8, 9, 1)
	}
	for link := range 65536 {
		z.Quiet(link)
	}
	for link := 2; link < 65; link++ {
		offer(t, z, link, 1, 0)
	}
	offers(t, z, 65, 1, false, 0, api.ErrFull)
}

// P10.5

// step is a call of Offer, or of Tick if it ticks.
type step struct {
	link, level, now int
	none, ticks      bool
}

// do does a step.
func (s step) do(z *ztp.Ztp) api.Errno {
	if s.ticks {
		return z.Tick(s.now)
	}
	return z.Offer(s.link, s.level, s.none, s.now)
}

// model is what a node should be.
type model struct {
	last     []step // the last call of Offer of each link, if that was an offer
	accepted []int  // nothing, or one level
	holds    bool
	until    int
}

// best returns the highest level that is offered.
func (m *model) best() int {
	l := []int{0}
	for _, s := range m.last {
		l = append(l, s.level)
	}
	return slices.Max(l)
}

// keep keeps those offers for which is returns true.
func (m *model) keep(is func(s step) bool) {
	var l []step
	for _, s := range m.last {
		if is(s) {
			l = append(l, s)
		}
	}
	m.last = l
}

// accept accepts a level, or nothing.
func (m *model) accept(level int) {
	m.accepted = nil
	if level > 0 {
		m.accepted = []int{level}
	}
}

func (m *model) do(s step) api.Errno {
	switch {
	case s.now < 0 || s.now > 1<<40:
		return api.ErrArg
	case s.ticks:
		m.tick(s.now)
		return api.OK
	case s.link < 0 || s.link > 65535 || s.level < -1 || s.level > 24:
		return api.ErrArg
	}
	others := 0
	for _, x := range m.last {
		if x.link != s.link {
			others++
		}
	}
	is := s.level > 0 && !s.none
	if is && others == 64 {
		return api.ErrFull
	}
	m.keep(func(x step) bool { return x.link != s.link })
	if is {
		m.last = append(m.last, s)
	}
	return api.OK
}

func (m *model) tick(now int) {
	m.keep(func(x step) bool { return now-x.now < 4 })
	had := 0
	if len(m.accepted) > 0 {
		had = m.accepted[0]
	}
	if m.best() > had && !m.holds {
		m.accept(m.best())
	}
	if m.best() < had {
		m.accept(0)
		m.holds, m.until = true, now+3
	}
	if m.holds && m.until <= now {
		m.holds = false
		m.accept(m.best())
	}
}

// same checks that a node of a derived level is what its model is.
func same(t *testing.T, z *ztp.Ztp, m *model) {
	t.Helper()
	level := -1
	if len(m.accepted) > 0 {
		level = m.accepted[0] - 1
	}
	var quiet []int
	for _, s := range m.last {
		if s.level == level+1 {
			quiet = append(quiet, s.link)
		}
	}
	is(t, z, level, m.best(), quiet...)
	if m.holds && level != -1 {
		t.Fatalf("the level is %d in hold-down", level)
	}
}

// steady checks that a node has the level 1 below its highest offer once that has
// not changed for 3 ticks, and goes on having it.
func steady(t *testing.T, z *ztp.Ztp, m *model, now int) {
	t.Helper()
	held := slices.Clone(m.last)
	for i := range 6 {
		for _, s := range held {
			s.now = now + i
			if got, want := s.do(z), m.do(s); got != want || got != api.OK {
				t.Fatalf("%v: %v, want %v", s, got, want)
			}
		}
		tick(t, z, now+i)
		m.tick(now + i)
		same(t, z, m)
		if i >= 3 && z.Level() != z.Best()-1 {
			t.Fatalf("the level is %d, and %d is offered", z.Level(), z.Best())
		}
	}
}

// A node does for a long time what its model does, and comes to rest.
func TestManySteps(t *testing.T) {
	r := rand.New(rand.NewSource(1))
	reached := map[string]int{}
	for range 300 {
		z, m, now := derived(t), &model{}, r.Intn(5)
		for range 300 {
			s := step{link: r.Intn(4), level: r.Intn(6) - 1, now: now, none: r.Intn(4) == 0, ticks: r.Intn(3) == 0}
			switch r.Intn(20) {
			case 0:
				s.now += r.Intn(9) - 4
			case 1:
				s.link = links[r.Intn(len(links))]
			}
			if s.ticks && r.Intn(3) > 0 {
				now++
			}
			held := z.Level()
			got, want := s.do(z), m.do(s)
			if got != want {
				t.Fatalf("%v: %v, want %v", s, got, want)
			}
			same(t, z, m)
			if s.ticks && got == api.OK && z.Level() != -1 && z.Level() != z.Best()-1 {
				t.Fatalf("after a tick, the level is %d, and %d is offered", z.Level(), z.Best())
			}
			switch {
			case m.holds && s.ticks && held != -1:
				reached["falls"]++
			case m.holds && m.best() > 0:
				reached["holds"]++
			case s.ticks && z.Level() > held && held != -1:
				reached["rises"]++
			}
		}
		steady(t, z, m, now+5)
	}
	for _, what := range []string{"falls", "holds", "rises"} {
		if reached[what] < 1000 {
			t.Errorf("a node %s %d times alone", what, reached[what])
		}
	}
}

// After each of all lists of six steps out of eight, a node is what its model is.
func TestAllSteps(t *testing.T) {
	do := []step{
		{ticks: true}, {link: 1, level: 3}, {link: 1, level: 2}, {link: 2, level: 3},
		{link: 2, level: 1}, {link: 1, level: 9, none: true}, {link: 2}, {ticks: true, now: 2},
	}
	for what := range 1 << 18 {
		z, m, now := derived(t), &model{}, 0
		for i := range 6 {
			s := do[what>>(3*i)&7]
			if s.ticks {
				now += 1 + s.now
			}
			s.now = now
			if got, want := s.do(z), m.do(s); got != want {
				t.Fatalf("steps %o: %v, want %v", what, got, want)
			}
		}
		level, quiet := -1, false
		if len(m.accepted) > 0 {
			level = m.accepted[0] - 1
		}
		for _, s := range m.last {
			quiet = quiet || s.link == 1 && s.level == level+1
		}
		if z.Level() != level || z.Best() != m.best() || z.Quiet(1) != quiet {
			t.Fatalf("steps %o: Level = %d, Best = %d, Quiet = %v, want %d, %d, %v", what, z.Level(), z.Best(), z.Quiet(1), level, m.best(), quiet)
		}
	}
}

// Offers that are none, or of the level 0 or less, have no effect on a node that
// has none of their links.
func TestNoOffers(t *testing.T) {
	r := rand.New(rand.NewSource(2))
	for range 300 {
		a, b, now := derived(t), derived(t), 0
		for range 100 {
			s := step{link: r.Intn(4), level: r.Intn(24) + 1, now: now, ticks: r.Intn(2) == 0}
			now += r.Intn(3)
			if s.do(a) != api.OK || s.do(b) != api.OK {
				t.Fatal("a step")
			}
			offers(t, b, 4+r.Intn(100), r.Intn(2)-1, r.Intn(2) == 0, now, api.OK)
			offers(t, b, 4+r.Intn(100), r.Intn(26)-1, true, now, api.OK)
			for link := range 104 {
				if a.Quiet(link) != b.Quiet(link) {
					t.Fatalf("Quiet(%d) = %v", link, b.Quiet(link))
				}
			}
			if a.Level() != b.Level() || a.Best() != b.Best() {
				t.Fatalf("Level = %d, Best = %d, want %d, %d", b.Level(), b.Best(), a.Level(), a.Best())
			}
		}
	}
}

// FuzzSteps searches for steps by which a node is not what its model is.
func FuzzSteps(f *testing.F) {
	f.Add(-1, false, false, 1, 24, false, 0, 2, 22, false, 2, 0, 4, 7)
	f.Add(-1, false, false, 1, 9, false, 0, 1, 9, true, 2, 0, 1, 4)
	f.Add(-1, true, false, 0, 1, false, 1<<40, 65535, 24, false, 1<<40, 1<<40, 1<<40, 0)
	f.Add(3, true, false, -1, 25, false, -1, 65536, -2, false, 1<<40+1, -1, 1<<40+1, 0)
	f.Fuzz(func(t *testing.T, fixed int, leaf, top bool, link, level int, none bool, now, link2, level2 int, none2 bool, now2, tick, tick2, tick3 int) {
		z, err := ztp.New(fixed, leaf, top)
		if (z == nil) != (err != api.OK) {
			t.Fatalf("New(%d, %v, %v) = %v, %v", fixed, leaf, top, z, err)
		}
		if z == nil {
			return
		}
		told, m := z.Level(), &model{}
		for _, s := range []step{
			{link: link, level: level, now: now, none: none}, {now: tick, ticks: true}, {link: link2, level: level2, now: now2, none: none2},
			{now: tick2, ticks: true}, {link: link, level: level2, now: now2, none: none}, {now: tick3, ticks: true},
		} {
			if got, want := s.do(z), m.do(s); got != want {
				t.Fatalf("%v: %v, want %v", s, got, want)
			}
			if fixed < 0 && !leaf && !top {
				same(t, z, m)
			} else {
				is(t, z, told, m.best())
			}
		}
	})
}
