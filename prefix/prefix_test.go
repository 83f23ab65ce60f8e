package prefix_test

import (
	"math"
	"math/rand"
	"net/netip"
	"slices"
	"strconv"
	"strings"
	"testing"

	"selvage/api"
	"selvage/prefix"
)

// wrongBits are numbers of bits that no prefix has, those among them that are
// taken for right ones if they are made shorter.
var wrongBits = []int{-1, -2, -31, -32, -33, 33, 34, 63, 64, 255, 256, 264, 1 << 32, 1<<32 + 8,
	math.MaxInt32, math.MinInt32, math.MaxInt, math.MinInt}

// edgeNets are addresses at the edges of numbers and of bytes.
var edgeNets = []uint32{0, 1, 2, 255, 256, 1 << 16, 10 << 24, 10<<24 + 1, 1<<31 - 1, 1 << 31, 1<<31 + 1, 1<<32 - 2, 1<<32 - 1}

// p returns the prefix of four bytes and that many bits, valid or not.
func p(a, b, c, d byte, bits int) api.Prefix {
	return api.Prefix{Net: uint32(a)<<24 | uint32(b)<<16 | uint32(c)<<8 | uint32(d), Bits: bits}
}

// bit returns the i-th bit of a, the most significant one being the first.
func bit(a uint32, i int) uint32 { return a >> (31 - i) & 1 }

// valid tells by the chapter's words whether a prefix is valid.
func valid(p api.Prefix) bool {
	if p.Bits < 0 || p.Bits > 32 {
		return false
	}
	for i := p.Bits; i < 32; i++ {
		if bit(p.Net, i) != 0 {
			return false
		}
	}
	return true
}

// ends returns the first and the last address of a valid prefix.
func ends(p api.Prefix) (first, last uint64) {
	return uint64(p.Net), uint64(p.Net) + 1<<(32-p.Bits) - 1
}

// within tells whether an address is in a prefix, by what its ends are.
func within(p api.Prefix, a uint64) bool {
	if !valid(p) {
		return false
	}
	first, last := ends(p)
	return first <= a && a <= last
}

// some returns a valid prefix.
func some(r *rand.Rand) api.Prefix {
	bits := r.Intn(33)
	return api.Prefix{Net: uint32(uint64(r.Uint32()) >> (32 - bits) << (32 - bits)), Bits: bits}
}

// P6.1: Right

func TestRight(t *testing.T) {
	for bits := -3; bits <= 40; bits++ {
		nets := slices.Clone(edgeNets)
		for i := range 32 {
			nets = append(nets, 1<<i, math.MaxUint32<<i, 1<<31|1<<i)
		}
		for _, net := range nets {
			q := api.Prefix{Net: net, Bits: bits}
			if got := prefix.Right(q); got != valid(q) {
				t.Errorf("Right(%v) = %v", q, got)
			}
		}
	}
}

func TestRightOfWrongBits(t *testing.T) {
	for _, bits := range wrongBits {
		for _, net := range edgeNets {
			if q := (api.Prefix{Net: net, Bits: bits}); prefix.Right(q) {
				t.Errorf("Right(%v)", q)
			}
		}
	}
}

// P6.1: Text and Parse

// texts are prefixes with their texts.
var texts = []struct {
	p api.Prefix
	s string
}{
	{p(10, 0, 0, 0, 8), "10.0.0.0/8"},
	{p(0, 0, 0, 0, 0), "0.0.0.0/0"},
	{p(0, 0, 0, 0, 1), "0.0.0.0/1"},
	{p(0, 0, 0, 0, 32), "0.0.0.0/32"},
	{p(255, 255, 255, 255, 32), "255.255.255.255/32"},
	{p(128, 0, 0, 0, 1), "128.0.0.0/1"},
	{p(1, 2, 3, 4, 32), "1.2.3.4/32"},
	{p(1, 2, 3, 4, 30), "1.2.3.4/30"},
	{p(0, 0, 0, 1, 32), "0.0.0.1/32"},
	{p(0, 0, 1, 0, 24), "0.0.1.0/24"},
	{p(100, 99, 10, 9, 32), "100.99.10.9/32"},
	{p(192, 168, 0, 0, 16), "192.168.0.0/16"},
	{p(172, 16, 0, 0, 12), "172.16.0.0/12"},
}

func TestText(t *testing.T) {
	for _, x := range texts {
		if got := prefix.Text(x.p); got != x.s {
			t.Errorf("Text(%v) = %q, want %q", x.p, got, x.s)
		}
	}
}

func TestTextByLibrary(t *testing.T) {
	r := rand.New(rand.NewSource(1))
	for range 5000 {
		q := some(r)
		a := netip.AddrFrom4([4]byte{byte(q.Net >> 24), byte(q.Net >> 16), byte(q.Net >> 8), byte(q.Net)})
		if got, want := prefix.Text(q), netip.PrefixFrom(a, q.Bits).String(); got != want {
			t.Fatalf("Text(%v) = %q, want %q", q, got, want)
		}
	}
}

func TestTextOfWrongPrefixes(t *testing.T) {
	wrong := []api.Prefix{p(10, 0, 0, 1, 8), p(0, 0, 0, 1, 31), p(128, 0, 0, 0, 0), p(255, 255, 255, 255, 31)}
	for _, bits := range wrongBits {
		wrong = append(wrong, p(0, 0, 0, 0, bits), p(10, 0, 0, 0, bits))
	}
	for _, q := range wrong {
		if got := prefix.Text(q); got != "" {
			t.Errorf("Text(%v) = %q", q, got)
		}
	}
}

func TestParse(t *testing.T) {
	for _, x := range texts {
		if got, e := prefix.Parse(x.s); e != api.OK || got != x.p {
			t.Errorf("Parse(%q) = %v, %v, want %v", x.s, got, e, x.p)
		}
	}
}

// notParsed checks that a text is that of no prefix.
func notParsed(t *testing.T, s string) {
	t.Helper()
	if got, e := prefix.Parse(s); e != api.ErrForm || got != (api.Prefix{}) {
		t.Errorf("Parse(%q) = %v, %v, want ErrForm", s, got, e)
	}
}

func TestParseOfWrongTexts(t *testing.T) {
	for _, s := range []string{
		"", "/", ".", "...", ".../", "0", "0/0", "/0", "0.0.0.0", "0.0.0.0/", "0.0.0/0", "0.0.0.0.0/0", "0.0.0.0.0",
		"0.0.0.0/0/0", "0.0.0/0.0", "0/0.0.0.0", "0,0,0,0/0", "0.0.0.0.0", "0/0/0/0/0", "0.0.0.0\\0", "0.0.0.0:0",
		".0.0.0/0", "0..0.0/0", "0.0..0/0", "0.0.0./0", "0...0/0", "10..0.0.0/8", "10.0.0.0//8", ".10.0.0.0/8", "10.0.0.0./8",
		"10.0.0.0/8.", "10.0.0.0/8/", "10.0.0.0/8 ", " 10.0.0.0/8", "10.0.0.0 /8", "10.0.0.0/ 8", "10. 0.0.0/8", "10.0.0.0/8\n", "10.0.0.0/8\x00",
		"+10.0.0.0/8", "-10.0.0.0/8", "10.-0.0.0/8", "10.+0.0.0/8", "10.0.0.0/+8", "10.0.0.0/-8", "0.0.0.0/-0", "0.0.0.0/-1",
		"010.0.0.0/8", "10.00.0.0/8", "10.0.0.00/8", "10.0.0.0/08", "0.0.0.0/00", "00.0.0.0/0", "10.0.0.0/008", "0000000000010.0.0.0/8",
		"256.0.0.0/8", "266.0.0.0/8", "0.0.256.0/24", "0.256.0.0/16", "0.0.0.256/32", "999.0.0.0/32", "1000.0.0.0/32", "4294967306.0.0.0/8",
		"18446744073709551626.0.0.0/8", "99999999999999999999999999.0.0.0/8", "10.0.0.0/33", "10.0.0.0/40", "10.0.0.0/99", "10.0.0.0/256", "10.0.0.0/264",
		"10.0.0.0/4294967304", "10.0.0.0/18446744073709551624", "10.0.0.0/99999999999999999999999999", "10.0.0.0/8e0", "10.0.0.0/8.0", "1e1.0.0.0/8",
		"0xa.0.0.0/8", "0b1.0.0.0/8", "0o7.0.0.0/8", "a.0.0.0/8", "ff.0.0.0/8", "10.0.0.0/0x8", "10.0.0.0/a", "1_0.0.0.0/8", "10.0.0.0/1_6",
		"10.0.0.1/8", "10.1.0.0/8", "10.0.0.0/6", "128.0.0.0/0", "0.0.0.1/0", "0.0.0.1/31", "255.255.255.255/31", "1.2.3.4/29",
		"١٠.0.0.0/8", "10.0.0.0/８", "10。0。0。0/8", "10.0.0.0∕8", "\xff\xfe.0.0.0/8", "::/0", "::ffff:10.0.0.0/104", "10", "167772160/8", "10.0/8", "localhost",
	} {
		notParsed(t, s)
	}
	notParsed(t, strings.Repeat("1", 100000))
	notParsed(t, strings.Repeat(".", 100000))
	notParsed(t, strings.Repeat("0.", 100000)+"/0")
	notParsed(t, "10.0.0.0/"+strings.Repeat("0", 100000)+"8")
}

// Each number of each place is held against what it may be there.
func TestParseOfEachNumber(t *testing.T) {
	for at := range 5 {
		for n := -300; n <= 1100; n++ {
			parts := []string{"0", "0", "0", "0", "32"}
			parts[at] = strconv.Itoa(n)
			s := strings.Join(parts[:4], ".") + "/" + parts[4]
			if n < 0 || n > 255 || at == 4 && n > 32 {
				notParsed(t, s)
				continue
			}
			want := api.Prefix{Bits: 32}
			if at == 4 {
				want.Bits = n
			} else {
				want.Net = uint32(n) << (24 - 8*at)
			}
			if got, e := prefix.Parse(s); e != api.OK || got != want {
				t.Errorf("Parse(%q) = %v, %v, want %v", s, got, e, want)
			}
		}
	}
}

// What is parsed of a changed text is a prefix whose text that is.
func TestParseOfChangedTexts(t *testing.T) {
	check := func(s string) {
		got, e := prefix.Parse(s)
		if e == api.OK && (!valid(got) || prefix.Text(got) != s) || e != api.OK && (e != api.ErrForm || got != (api.Prefix{})) {
			t.Errorf("Parse(%q) = %v, %v", s, got, e)
		}
	}
	for _, x := range texts {
		for at := range len(x.s) {
			check(x.s[:at])
			check(x.s[at:])
			check(x.s[:at] + x.s[at+1:])
			for c := range 256 {
				check(x.s[:at] + string([]byte{byte(c)}) + x.s[at+1:])
				check(x.s[:at] + string([]byte{byte(c)}) + x.s[at:])
			}
		}
	}
}

// P6.2: In, Covers, Cut and Compare

func TestIn(t *testing.T) {
	r := rand.New(rand.NewSource(2))
	for range 5000 {
		q := some(r)
		first, last := ends(q)
		addresses := []uint64{first, last, first - 1, last + 1, uint64(r.Uint32())}
		for _, a := range edgeNets {
			addresses = append(addresses, uint64(a))
		}
		for _, a := range addresses {
			if a > math.MaxUint32 {
				continue
			}
			if got := prefix.In(q, uint32(a)); got != within(q, a) {
				t.Fatalf("In(%v, %d) = %v", q, a, got)
			}
		}
	}
}

func TestInOfEdges(t *testing.T) {
	for _, a := range edgeNets {
		if !prefix.In(api.Prefix{}, a) {
			t.Errorf("In(0.0.0.0/0, %d) = false", a)
		}
		for _, b := range edgeNets {
			if got := prefix.In(api.Prefix{Net: a, Bits: 32}, b); got != (a == b) {
				t.Errorf("In(%d of 32 bits, %d) = %v", a, b, got)
			}
		}
	}
}

// In is false for a prefix that is not valid, even if the address has its
// leading bits.
func TestInOfWrongPrefixes(t *testing.T) {
	wrong := []api.Prefix{p(10, 0, 0, 1, 8), p(0, 0, 0, 1, 31), p(128, 0, 0, 0, 0)}
	for _, bits := range wrongBits {
		wrong = append(wrong, p(0, 0, 0, 0, bits), p(10, 0, 0, 0, bits))
	}
	for _, q := range wrong {
		for _, a := range append([]uint32{q.Net}, edgeNets...) {
			if prefix.In(q, a) {
				t.Errorf("In(%v, %d)", q, a)
			}
		}
	}
}

// covered tells by the ends of both whether p covers q.
func covered(p, q api.Prefix) bool {
	if !valid(p) || !valid(q) {
		return false
	}
	first, last := ends(p)
	firstQ, lastQ := ends(q)
	return first <= firstQ && lastQ <= last
}

// near returns a prefix, and one that is likely to be covered by it, or to
// cover it.
func near(r *rand.Rand) (api.Prefix, api.Prefix) {
	a := some(r)
	bits := r.Intn(33)
	net := uint64(a.Net)
	if r.Intn(2) == 0 {
		net |= uint64(r.Uint32()) >> a.Bits
	}
	if r.Intn(3) == 0 {
		net ^= 1 << r.Intn(32)
	}
	return a, api.Prefix{Net: uint32(net >> (32 - bits) << (32 - bits)), Bits: bits}
}

func TestCovers(t *testing.T) {
	r := rand.New(rand.NewSource(3))
	seen := map[bool]int{}
	for range 20000 {
		a, b := near(r)
		got := prefix.Covers(a, b)
		seen[got]++
		if got != covered(a, b) {
			t.Fatalf("Covers(%v, %v) = %v", a, b, got)
		}
		if !prefix.Covers(a, a) {
			t.Fatalf("%v does not cover itself", a)
		}
	}
	if seen[true] < 1000 || seen[false] < 1000 {
		t.Errorf("too few of one kind: %v", seen)
	}
}

func TestCoversOfEdges(t *testing.T) {
	for _, x := range []struct {
		p, q api.Prefix
		want bool
	}{
		{p(0, 0, 0, 0, 0), p(255, 255, 255, 255, 32), true},
		{p(0, 0, 0, 0, 0), p(0, 0, 0, 0, 0), true},
		{p(0, 0, 0, 0, 1), p(0, 0, 0, 0, 0), false},
		{p(10, 0, 0, 0, 8), p(10, 0, 0, 0, 7), false},
		{p(10, 0, 0, 0, 8), p(10, 0, 0, 0, 9), true},
		{p(10, 0, 0, 0, 8), p(10, 128, 0, 0, 9), true},
		{p(10, 0, 0, 0, 8), p(11, 0, 0, 0, 9), false},
		{p(10, 0, 0, 0, 8), p(11, 0, 0, 0, 8), false},
		{p(1, 2, 3, 4, 32), p(1, 2, 3, 4, 32), true},
		{p(1, 2, 3, 4, 32), p(1, 2, 3, 5, 32), false},
		{p(10, 0, 0, 1, 8), p(10, 0, 0, 0, 16), false},
		{p(10, 0, 0, 1, 8), p(10, 0, 0, 1, 32), false},
		{p(10, 0, 0, 1, 8), p(10, 0, 0, 1, 8), false},
		{p(10, 0, 0, 0, 8), p(10, 0, 0, 1, 16), false},
		{p(10, 0, 0, 0, 8), p(10, 0, 0, 1, 31), false},
		{p(0, 0, 0, 0, 0), p(128, 0, 0, 0, 0), false},
	} {
		if got := prefix.Covers(x.p, x.q); got != x.want {
			t.Errorf("Covers(%v, %v) = %v", x.p, x.q, got)
		}
	}
	for _, bits := range wrongBits {
		for _, q := range []api.Prefix{p(0, 0, 0, 0, 0), p(0, 0, 0, 0, 8), p(0, 0, 0, 0, 32), p(0, 0, 0, 0, bits)} {
			if w := p(0, 0, 0, 0, bits); prefix.Covers(w, q) || prefix.Covers(q, w) {
				t.Errorf("one of %v and %v covers the other", w, q)
			}
		}
	}
}

func TestCut(t *testing.T) {
	r := rand.New(rand.NewSource(4))
	addresses := slices.Clone(edgeNets)
	for range 500 {
		addresses = append(addresses, r.Uint32())
	}
	for _, a := range addresses {
		for bits := range 33 {
			got, e := prefix.Cut(a, bits)
			if e != api.OK || got.Bits != bits || !valid(got) || !within(got, uint64(a)) {
				t.Fatalf("Cut(%d, %d) = %v, %v", a, bits, got, e)
			}
		}
		for _, bits := range wrongBits {
			if got, e := prefix.Cut(a, bits); e != api.ErrArg || got != (api.Prefix{}) {
				t.Fatalf("Cut(%d, %d) = %v, %v, want ErrArg", a, bits, got, e)
			}
		}
	}
}

// They are numbers: Net has no sign, and Bits has one; and they are compared of
// prefixes that are not valid, too.
func TestCompare(t *testing.T) {
	bits := append([]int{0, 1, 2, 8, 16, 31, 32}, wrongBits...)
	slices.Sort(bits)
	var ascending []api.Prefix
	for _, net := range edgeNets {
		for _, n := range bits {
			ascending = append(ascending, api.Prefix{Net: net, Bits: n})
		}
	}
	for i, a := range ascending {
		for j, b := range ascending {
			want := 0
			if i < j {
				want = -1
			} else if i > j {
				want = 1
			}
			if got := prefix.Compare(a, b); got != want {
				t.Fatalf("Compare(%v, %v) = %d, want %d", a, b, got, want)
			}
		}
	}
}

// P6.3: Join

// joins checks that Join returns that list.
func joins(t *testing.T, name string, l, want []api.Prefix) {
	t.Helper()
	if got := prefix.Join(l); !slices.Equal(got, want) {
		t.Errorf("%s: Join(%v) = %v, want %v", name, l, got, want)
	}
}

func TestJoin(t *testing.T) {
	all := p(0, 0, 0, 0, 0)
	for _, x := range []struct {
		name    string
		l, want []api.Prefix
	}{
		{"nothing", nil, nil},
		{"an empty list", []api.Prefix{}, nil},
		{"the example", []api.Prefix{p(10, 0, 0, 0, 9), p(10, 128, 0, 0, 9)}, []api.Prefix{p(10, 0, 0, 0, 8)}},
		{"the example turned", []api.Prefix{p(10, 128, 0, 0, 9), p(10, 0, 0, 0, 9)}, []api.Prefix{p(10, 0, 0, 0, 8)}},
		{"one", []api.Prefix{p(1, 2, 3, 4, 32)}, []api.Prefix{p(1, 2, 3, 4, 32)}},
		{"all", []api.Prefix{all}, []api.Prefix{all}},
		{"all twice", []api.Prefix{all, all}, []api.Prefix{all}},
		{"all of halves", []api.Prefix{p(128, 0, 0, 0, 1), p(0, 0, 0, 0, 1)}, []api.Prefix{all}},
		{"the last addresses", []api.Prefix{p(255, 255, 255, 255, 32), p(255, 255, 255, 254, 32)}, []api.Prefix{p(255, 255, 255, 254, 31)}},
		{"one twice", []api.Prefix{p(10, 0, 0, 0, 8), p(10, 0, 0, 0, 8)}, []api.Prefix{p(10, 0, 0, 0, 8)}},
		{"one half twice", []api.Prefix{p(10, 0, 0, 0, 9), p(10, 0, 0, 0, 9)}, []api.Prefix{p(10, 0, 0, 0, 9)}},
		{"one in another", []api.Prefix{p(10, 1, 0, 0, 16), p(10, 0, 0, 0, 8)}, []api.Prefix{p(10, 0, 0, 0, 8)}},
		{"of one Net", []api.Prefix{p(10, 0, 0, 0, 32), p(10, 0, 0, 0, 8), p(10, 0, 0, 0, 16)}, []api.Prefix{p(10, 0, 0, 0, 8)}},
		{"neighbors that are no halves", []api.Prefix{p(10, 1, 0, 0, 16), p(10, 2, 0, 0, 16)}, []api.Prefix{p(10, 1, 0, 0, 16), p(10, 2, 0, 0, 16)}},
		{"neighbors of different Bits", []api.Prefix{p(10, 0, 0, 0, 9), p(10, 128, 0, 0, 10)}, []api.Prefix{p(10, 0, 0, 0, 9), p(10, 128, 0, 0, 10)}},
		{"of one Bits, far from each other", []api.Prefix{p(11, 0, 0, 0, 8), p(9, 0, 0, 0, 8)}, []api.Prefix{p(9, 0, 0, 0, 8), p(11, 0, 0, 0, 8)}},
		{"a half of two", []api.Prefix{p(10, 192, 0, 0, 10), p(10, 0, 0, 0, 9), p(10, 128, 0, 0, 10)}, []api.Prefix{p(10, 0, 0, 0, 8)}},
		{"a half in two ways", []api.Prefix{p(10, 0, 0, 0, 9), p(10, 64, 0, 0, 10), p(10, 0, 0, 0, 10), p(10, 128, 0, 0, 9)}, []api.Prefix{p(10, 0, 0, 0, 8)}},
		{"two of two", []api.Prefix{p(7, 0, 0, 0, 8), p(5, 0, 0, 0, 8), p(6, 0, 0, 0, 8)}, []api.Prefix{p(5, 0, 0, 0, 8), p(6, 0, 0, 0, 7)}},
		{"Nets without a sign", []api.Prefix{p(128, 0, 0, 0, 8), p(127, 0, 0, 0, 8)}, []api.Prefix{p(127, 0, 0, 0, 8), p(128, 0, 0, 0, 8)}},
	} {
		joins(t, x.name, x.l, x.want)
	}
}

// Prefixes that are not valid are as if they were not there.
func TestJoinOfWrongPrefixes(t *testing.T) {
	wrong := []api.Prefix{p(10, 0, 0, 1, 8), p(10, 128, 0, 1, 9), p(128, 0, 0, 0, 0), p(255, 255, 255, 255, 31)}
	for _, bits := range wrongBits {
		wrong = append(wrong, p(0, 0, 0, 0, bits), p(10, 128, 0, 0, bits), p(128, 0, 0, 0, bits))
	}
	joins(t, "alone", wrong, nil)
	half := p(10, 0, 0, 0, 9)
	joins(t, "ahead", append(slices.Clone(wrong), half), []api.Prefix{half})
	joins(t, "behind", append([]api.Prefix{half}, wrong...), []api.Prefix{half})
	joins(t, "twice", append(slices.Clone(wrong), wrong...), nil)
}

// subtree returns that prefix and those within it, down to so many more bits.
func subtree(q api.Prefix, depth int) []api.Prefix {
	l := []api.Prefix{q}
	if depth > 0 {
		l = append(l, subtree(api.Prefix{Net: q.Net, Bits: q.Bits + 1}, depth-1)...)
		l = append(l, subtree(api.Prefix{Net: q.Net | 1<<(31-q.Bits), Bits: q.Bits + 1}, depth-1)...)
	}
	return l
}

// fewest returns by halving the fewest prefixes within one, down to so many
// more bits, that have all the addresses of l there.
func fewest(l []api.Prefix, q api.Prefix, depth int) []api.Prefix {
	halves := subtree(q, min(depth, 1))[1:]
	if slices.ContainsFunc(l, func(x api.Prefix) bool { return covered(x, q) }) {
		return []api.Prefix{q}
	}
	if len(halves) == 0 {
		return nil
	}
	both := append(fewest(l, halves[0], depth-1), fewest(l, halves[1], depth-1)...)
	if slices.Equal(both, halves) {
		return []api.Prefix{q}
	}
	return both
}

// Of all lists of the fifteen prefixes of a tree of three more bits, at both
// ends of what a prefix may be and in between.
func TestJoinOfAllLists(t *testing.T) {
	for _, root := range []api.Prefix{p(0, 0, 0, 0, 0), p(10, 20, 0, 0, 15), p(255, 255, 255, 248, 29)} {
		tree := subtree(root, 3)
		r := rand.New(rand.NewSource(5))
		for set := range 1 << len(tree) {
			var l []api.Prefix
			for i, q := range tree {
				if set>>i&1 == 1 {
					l = append(l, q)
				}
			}
			want := fewest(l, root, 3)
			r.Shuffle(len(l), func(i, j int) { l[i], l[j] = l[j], l[i] })
			if got := prefix.Join(l); !slices.Equal(got, want) {
				t.Fatalf("Join(%v) = %v, want %v", l, got, want)
			}
		}
	}
}

func TestJoinOfMany(t *testing.T) {
	r := rand.New(rand.NewSource(6))
	var l []api.Prefix
	for i := range 1 << 18 {
		l = append(l, api.Prefix{Net: 10<<24 | uint32(i), Bits: 32})
	}
	r.Shuffle(len(l), func(i, j int) { l[i], l[j] = l[j], l[i] })
	joins(t, "addresses", l, []api.Prefix{p(10, 0, 0, 0, 14)})

	l = slices.DeleteFunc(l, func(q api.Prefix) bool { return q.Net%2 == 1 })
	want := slices.SortedFunc(slices.Values(l), prefix.Compare)
	if got := prefix.Join(l); !slices.Equal(got, want) {
		t.Errorf("Join of every other address: %d prefixes, want %d", len(got), len(want))
	}

	// All but the first address: one prefix of each number of bits.
	l, want = nil, nil
	for bits := 32; bits >= 1; bits-- {
		want = append(want, api.Prefix{Net: 1 << (32 - bits), Bits: bits})
	}
	l = append(l, want...)
	slices.Reverse(l)
	joins(t, "all but one", l, want)
	joins(t, "all", append(l, p(0, 0, 0, 0, 32)), []api.Prefix{p(0, 0, 0, 0, 0)})
}

// R3: what is handed in stays as it is, also behind its end, and what is
// returned shares nothing with it.
func TestArgumentStays(t *testing.T) {
	memory := []api.Prefix{p(11, 0, 0, 0, 8), p(10, 0, 0, 1, 8), p(10, 128, 0, 0, 9), p(9, 0, 0, 0, 8), p(10, 0, 0, 0, 9),
		p(1, 0, 0, 0, 8), p(2, 0, 0, 0, 8)}
	was := slices.Clone(memory)
	got := prefix.Join(memory[:5])
	want := []api.Prefix{p(9, 0, 0, 0, 8), p(10, 0, 0, 0, 7)}
	if !slices.Equal(got, want) || !slices.Equal(memory, was) {
		t.Errorf("Join = %v of what is now %v", got, memory)
	}
	for _, l := range [][]api.Prefix{memory[3:4], memory[5:]} {
		got, want := prefix.Join(l), slices.Clone(l)
		clear(l)
		if !slices.Equal(got, want) {
			t.Errorf("Join = %v, want %v: it is the argument's memory", got, want)
		}
	}
}

// P6.4

func TestParseInvertsText(t *testing.T) {
	r := rand.New(rand.NewSource(7))
	for range 5000 {
		q := some(r)
		if got, e := prefix.Parse(prefix.Text(q)); e != api.OK || got != q {
			t.Fatalf("Parse of the Text of %v = %v, %v", q, got, e)
		}
	}
	for _, x := range texts {
		if got, _ := prefix.Parse(x.s); prefix.Text(got) != x.s {
			t.Errorf("Text of what %q is parsed to = %q", x.s, prefix.Text(got))
		}
	}
}

func TestDisjointOrCovered(t *testing.T) {
	r := rand.New(rand.NewSource(8))
	for range 20000 {
		a, b := near(r)
		firstA, lastA := ends(a)
		firstB, lastB := ends(b)
		disjoint := lastA < firstB || lastB < firstA
		if disjoint == (prefix.Covers(a, b) || prefix.Covers(b, a)) {
			t.Fatalf("%v and %v: disjoint is %v", a, b, disjoint)
		}
	}
}

// inAny tells whether an address is in one of l.
func inAny(l []api.Prefix, a uint32) bool {
	return slices.ContainsFunc(l, func(q api.Prefix) bool { return prefix.In(q, a) })
}

// checkJoined checks what holds of all that Join returns.
func checkJoined(t *testing.T, l []api.Prefix) {
	t.Helper()
	joined := prefix.Join(l)
	for i, a := range joined {
		if !valid(a) || i > 0 && prefix.Compare(joined[i-1], a) >= 0 {
			t.Fatalf("Join(%v) = %v: not valid or not ascending", l, joined)
		}
		for j, b := range joined {
			if i != j && (covered(a, b) || a.Bits == b.Bits && a.Bits > 0 && a.Net^b.Net == 1<<(32-a.Bits)) {
				t.Fatalf("Join(%v) = %v: %v and %v can be joined", l, joined, a, b)
			}
		}
	}
	for _, q := range append(slices.Clone(l), joined...) {
		if !valid(q) {
			continue
		}
		first, last := ends(q)
		for _, a := range []uint32{uint32(first), uint32(last), uint32(first - 1), uint32(last + 1)} {
			if inAny(l, a) != inAny(joined, a) {
				t.Fatalf("Join(%v) = %v: %d is in one of them alone", l, joined, a)
			}
		}
	}
	if again := prefix.Join(joined); !slices.Equal(again, joined) {
		t.Fatalf("Join(%v) = %v, once more %v", l, joined, again)
	}
}

func TestJoined(t *testing.T) {
	r := rand.New(rand.NewSource(9))
	for range 3000 {
		tree := subtree(some(r), 0)
		if q := tree[0]; q.Bits <= 27 {
			tree = subtree(q, 5)
		}
		var l []api.Prefix
		for range r.Intn(40) {
			q := tree[r.Intn(len(tree))]
			if r.Intn(10) == 0 {
				q = api.Prefix{Net: r.Uint32(), Bits: r.Intn(40) - 4}
			}
			l = append(l, q)
		}
		checkJoined(t, l)
	}
}

// FuzzParse searches for a text for which Parse panics, or from which it
// returns what has another text.
func FuzzParse(f *testing.F) {
	for _, x := range texts {
		f.Add(x.s)
	}
	f.Add("010.0.0.0/8")
	f.Add("")
	f.Fuzz(func(t *testing.T, s string) {
		q, e := prefix.Parse(s)
		if e != api.OK {
			// The library takes the very same texts, but for those of prefixes
			// with bits behind their leading ones.
			if want, err := netip.ParsePrefix(s); e != api.ErrForm || q != (api.Prefix{}) || err == nil && want.Addr().Is4() && want == want.Masked() {
				t.Errorf("Parse(%q) = %v, %v", s, q, e)
			}
			return
		}
		if !valid(q) || prefix.Text(q) != s {
			t.Errorf("Parse(%q) = %v, whose Text is %q", s, q, prefix.Text(q))
		}
	})
}

// FuzzTwo holds two prefixes, valid or not, against the definition.
func FuzzTwo(f *testing.F) {
	f.Add(uint32(10<<24), 8, uint32(10<<24+1<<16), 16)
	f.Add(uint32(0), 0, uint32(1<<31), 33)
	f.Add(uint32(1), 32, uint32(1), -1)
	f.Fuzz(func(t *testing.T, netA uint32, bitsA int, netB uint32, bitsB int) {
		a, b := api.Prefix{Net: netA, Bits: bitsA}, api.Prefix{Net: netB, Bits: bitsB}
		if prefix.Right(a) != valid(a) || (prefix.Text(a) != "") != valid(a) {
			t.Errorf("Right(%v) = %v, Text = %q", a, prefix.Right(a), prefix.Text(a))
		}
		if prefix.In(a, netB) != within(a, uint64(netB)) || prefix.Covers(a, b) != covered(a, b) {
			t.Errorf("In(%v, %d) = %v, Covers of %v = %v", a, netB, prefix.In(a, netB), b, prefix.Covers(a, b))
		}
		if prefix.Compare(a, b) != -prefix.Compare(b, a) || (prefix.Compare(a, b) == 0) != (a == b) {
			t.Errorf("Compare(%v, %v) = %d", a, b, prefix.Compare(a, b))
		}
		if q, e := prefix.Cut(netA, bitsB); (e == api.OK) != (0 <= bitsB && bitsB <= 32) || e == api.OK && !within(q, uint64(netA)) {
			t.Errorf("Cut(%d, %d) = %v, %v", netA, bitsB, q, e)
		}
	})
}

// FuzzJoin checks what Join returns of prefixes that are read from bytes, five
// a prefix.
func FuzzJoin(f *testing.F) {
	f.Add([]byte{10, 0, 0, 0, 9, 10, 128, 0, 0, 9})
	f.Add([]byte{0, 0, 0, 0, 0, 128, 0, 0, 0, 1, 1, 2, 3, 4, 33})
	f.Fuzz(func(t *testing.T, b []byte) {
		var l []api.Prefix
		for x := range slices.Chunk(b[:min(len(b), 500)], 5) {
			if len(x) == 5 {
				l = append(l, p(x[0], x[1], x[2], x[3], int(int8(x[4]))))
			}
		}
		checkJoined(t, l)
	})
}
