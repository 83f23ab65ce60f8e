package wire_test

import (
	"bytes"
	"math"
	"math/rand"
	"reflect"
	"slices"
	"strconv"
	"strings"
	"testing"

	"selvage/api"
	"selvage/value"
	"selvage/wire"
)

func number(id, n int) api.Item { return api.Item{Kind: api.ItemInt, Id: id, N: n} }

func text(id int, b ...byte) api.Item { return api.Item{Kind: api.ItemBytes, Id: id, B: b} }

func open(id int) api.Item { return api.Item{Kind: api.ItemOpen, Id: id} }

func end() api.Item { return api.Item{Kind: api.ItemClose} }

func record(parts ...[]api.Item) []api.Item { return slices.Concat(parts...) }

// numbers returns fields of the Ids 1, 2 and so on.
func numbers(ns ...int) []api.Item {
	var l []api.Item
	for i, n := range ns {
		l = append(l, number(i+1, n))
	}
	return l
}

// within returns a struct with those fields.
func within(id int, fields ...[]api.Item) []api.Item {
	return record([]api.Item{open(id)}, record(fields...), []api.Item{end()})
}

func one(x api.Item) []api.Item { return []api.Item{x} }

// same compares by content, so that no bytes and nil are the same.
func same(l, m []api.Item) bool {
	return slices.EqualFunc(l, m, func(x, y api.Item) bool {
		return x.Kind == y.Kind && x.Id == y.Id && x.N == y.N && bytes.Equal(x.B, y.B)
	})
}

func clone(l []api.Item) []api.Item {
	l = slices.Clone(l)
	for i := range l {
		l[i].B = bytes.Clone(l[i].B)
	}
	return l
}

func samePacket(p, q api.Packet) bool {
	return p.Kind == q.Kind && p.Lie == q.Lie && p.From == q.From && p.To == q.To &&
		slices.Equal(p.Heads, q.Heads) && p.Tie.Head == q.Tie.Head && p.Tie.Level == q.Tie.Level &&
		p.Tie.Overload == q.Tie.Overload && slices.Equal(p.Tie.Edges, q.Tie.Edges) &&
		slices.Equal(p.Tie.Reaches, q.Tie.Reaches)
}

func clonePacket(p api.Packet) api.Packet {
	p.Heads = slices.Clone(p.Heads)
	p.Tie.Edges = slices.Clone(p.Tie.Edges)
	p.Tie.Reaches = slices.Clone(p.Tie.Reaches)
	return p
}

func sampleId(kind int) api.TieId {
	return api.TieId{Dir: api.North, Origin: 5, Kind: kind, Nr: 9}
}

func sampleLie() api.Packet {
	return api.Packet{Kind: api.KindLie, Lie: api.Lie{Node: 11, Level: 12, Pod: 13, Mtu: 14, Link: 15,
		Nonce: 16, Seen: 17, SeenLink: 18, SeenNonce: 19, Hold: 20, Repeat: true, NoOffer: false}}
}

func sampleNode() api.Packet {
	return api.Packet{Kind: api.KindTie, Tie: api.Tie{
		Head:     api.Head{Id: sampleId(api.TieNode), Seq: 7, Life: 60},
		Level:    3,
		Overload: true,
		Edges:    []api.Edge{{Node: 2, Level: 4, Cost: 6}, {Node: 1, Level: 0, Cost: 8}},
	}}
}

func sampleNets(kind int) api.Packet {
	return api.Packet{Kind: api.KindTie, Tie: api.Tie{
		Head: api.Head{Id: sampleId(kind), Seq: 7, Life: 60},
		Reaches: []api.Reach{
			{Prefix: api.Prefix{Net: 10 << 24, Bits: 8}, Metric: 3},
			{Prefix: api.Prefix{Net: 0, Bits: 0}, Metric: 0},
		},
	}}
}

func sampleTide() api.Packet {
	return api.Packet{Kind: api.KindTide,
		From:  api.TieId{Dir: api.South, Origin: 1, Kind: api.TieNode, Nr: 0},
		To:    api.TieId{Dir: api.North, Origin: 1000, Kind: api.TieNegative, Nr: 65535},
		Heads: []api.Head{{Id: sampleId(api.TiePositive), Seq: 1, Life: 2}, {Id: sampleId(api.TieNode), Seq: 0, Life: 0}}}
}

func sampleTire() api.Packet {
	return api.Packet{Kind: api.KindTire, Heads: []api.Head{{Id: sampleId(api.TiePrefix), Seq: 1, Life: 2}}}
}

// examples are valid packets, with their fields written out.
func examples() map[string]struct {
	p api.Packet
	l []api.Item
} {
	type example = struct {
		p api.Packet
		l []api.Item
	}
	id := func(at, kind int) []api.Item { return within(at, numbers(2, 5, kind, 9)) }
	ends := record(within(4, numbers(1, 1, 1, 0)), within(5, numbers(2, 1000, 4, 65535)))
	nets := func(kind int) []api.Item {
		return record(one(number(1, 2)), within(3,
			within(1, id(1, kind), one(number(2, 7)), one(number(3, 60))),
			one(number(2, 0)), one(number(3, 0)),
			within(5, numbers(10<<24, 8, 3)), within(5, numbers(0, 0, 0))))
	}
	return map[string]example{
		"a Lie": {sampleLie(),
			record(one(number(1, 1)), within(2, numbers(11, 12, 13, 14, 15, 16, 17, 18, 19, 20, 1, 0)))},
		"a Lie of little": {api.Packet{Kind: api.KindLie, Lie: api.Lie{Node: 1, Level: -1, NoOffer: true}},
			record(one(number(1, 1)), within(2, numbers(1, -1, 0, 0, 0, 0, 0, 0, 0, 0, 0, 1)))},
		"a Tie of a node": {sampleNode(),
			record(one(number(1, 2)), within(3,
				within(1, id(1, 1), one(number(2, 7)), one(number(3, 60))),
				one(number(2, 3)), one(number(3, 1)),
				within(4, numbers(2, 4, 6)), within(4, numbers(1, 0, 8))))},
		"a Tie of prefixes":          {sampleNets(api.TiePrefix), nets(2)},
		"a Tie of positive prefixes": {sampleNets(api.TiePositive), nets(3)},
		"a Tie of negative prefixes": {sampleNets(api.TieNegative), nets(4)},
		"a Tide": {sampleTide(), record(one(number(1, 3)), ends,
			within(6, id(1, 3), one(number(2, 1)), one(number(3, 2))),
			within(6, id(1, 1), one(number(2, 0)), one(number(3, 0))))},
		"a Tide without Heads": {api.Packet{Kind: api.KindTide, From: sampleTide().From, To: sampleTide().To},
			record(one(number(1, 3)), ends)},
		"a Tide that goes down": {api.Packet{Kind: api.KindTide, From: sampleId(2), To: sampleId(1)},
			record(one(number(1, 3)), id(4, 2), id(5, 1))},
		"a Tire": {sampleTire(), record(one(number(1, 4)),
			within(6, id(1, 2), one(number(2, 1)), one(number(3, 2))))},
		"a Tire without Heads": {api.Packet{Kind: api.KindTire}, one(number(1, 4))},
		"a Tire with the same Head twice": {
			api.Packet{Kind: api.KindTire, Heads: slices.Repeat([]api.Head{{Id: sampleId(1)}}, 2)},
			record(one(number(1, 4)), slices.Repeat(within(6, id(1, 1), one(number(2, 0)), one(number(3, 0))), 2))},
		"a Tire with no Heads, and not nil": {
			api.Packet{Kind: api.KindTire, Heads: []api.Head{}, Tie: api.Tie{Edges: []api.Edge{}, Reaches: []api.Reach{}}},
			one(number(1, 4))},
		"a Lie with empty lists": {
			api.Packet{Kind: api.KindLie, Lie: sampleLie().Lie, Heads: []api.Head{}, Tie: api.Tie{Edges: []api.Edge{}, Reaches: []api.Reach{}}},
			record(one(number(1, 1)), within(2, numbers(11, 12, 13, 14, 15, 16, 17, 18, 19, 20, 1, 0)))},
	}
}

// limited is a number of a packet: how it is set in a packet where it may be
// anything from its least value to its greatest one, and by which Ids it is
// found in the fields of that (see place).
type limited struct {
	p           api.Packet
	path        []int
	least, most int
	set         func(p *api.Packet, n int)
}

func limits() map[string]limited {
	const short = 65535
	m := map[string]limited{
		"Lie.Node":      {sampleLie(), []int{2, 1}, 1, 1000, func(p *api.Packet, n int) { p.Lie.Node = n }},
		"Lie.Level":     {sampleLie(), []int{2, 2}, -1, 24, func(p *api.Packet, n int) { p.Lie.Level = n }},
		"Lie.Pod":       {sampleLie(), []int{2, 3}, 0, short, func(p *api.Packet, n int) { p.Lie.Pod = n }},
		"Lie.Mtu":       {sampleLie(), []int{2, 4}, 0, short, func(p *api.Packet, n int) { p.Lie.Mtu = n }},
		"Lie.Link":      {sampleLie(), []int{2, 5}, 0, short, func(p *api.Packet, n int) { p.Lie.Link = n }},
		"Lie.Nonce":     {sampleLie(), []int{2, 6}, 0, short, func(p *api.Packet, n int) { p.Lie.Nonce = n }},
		"Lie.Seen":      {sampleLie(), []int{2, 7}, 0, 1000, func(p *api.Packet, n int) { p.Lie.Seen = n }},
		"Lie.SeenLink":  {sampleLie(), []int{2, 8}, 0, short, func(p *api.Packet, n int) { p.Lie.SeenLink = n }},
		"Lie.SeenNonce": {sampleLie(), []int{2, 9}, 0, short, func(p *api.Packet, n int) { p.Lie.SeenNonce = n }},
		"Lie.Hold":      {sampleLie(), []int{2, 10}, 0, short, func(p *api.Packet, n int) { p.Lie.Hold = n }},

		"Tie.Level":  {sampleNode(), []int{3, 2}, 0, 24, func(p *api.Packet, n int) { p.Tie.Level = n }},
		"Edge.Node":  {sampleNode(), []int{3, 4, 1}, 1, 1000, func(p *api.Packet, n int) { p.Tie.Edges[1].Node = n }},
		"Edge.Level": {sampleNode(), []int{3, 4, 2}, 0, 24, func(p *api.Packet, n int) { p.Tie.Edges[1].Level = n }},
		"Edge.Cost":  {sampleNode(), []int{3, 4, 3}, 1, 1 << 20, func(p *api.Packet, n int) { p.Tie.Edges[1].Cost = n }},
		"Reach.Bits": {sampleNets(2), []int{3, 5, 2}, 0, 32, func(p *api.Packet, n int) { p.Tie.Reaches[1].Prefix.Bits = n }},
		"Metric":     {sampleNets(2), []int{3, 5, 3}, 0, 1 << 20, func(p *api.Packet, n int) { p.Tie.Reaches[1].Metric = n }},

		"a level but for a node": {sampleNets(2), []int{3, 2}, 0, 0, func(p *api.Packet, n int) { p.Tie.Level = n }},
	}
	heads := map[string]limited{
		"the Tie's":  {p: sampleNode(), path: []int{3, 1}},
		"the Tide's": {p: sampleTide(), path: []int{6}},
		"the Tire's": {p: sampleTire(), path: []int{6}},
	}
	of := map[string]func(p *api.Packet) *api.Head{
		"the Tie's":  func(p *api.Packet) *api.Head { return &p.Tie.Head },
		"the Tide's": func(p *api.Packet) *api.Head { return &p.Heads[1] },
		"the Tire's": func(p *api.Packet) *api.Head { return &p.Heads[0] },
	}
	for name, x := range heads {
		get := of[name]
		addId(m, name, x.p, to(x.path, 1), func(p *api.Packet) *api.TieId { return &get(p).Id })
		m[name+" Seq"] = limited{x.p, to(x.path, 2), 0, 1 << 40, func(p *api.Packet, n int) { get(p).Seq = n }}
		m[name+" Life"] = limited{x.p, to(x.path, 3), 0, 604800, func(p *api.Packet, n int) { get(p).Life = n }}
	}
	addId(m, "From", sampleTide(), []int{4}, func(p *api.Packet) *api.TieId { return &p.From })
	addId(m, "To", sampleTide(), []int{5}, func(p *api.Packet) *api.TieId { return &p.To })
	delete(m, "the Tie's Kind") // on which the other fields hang
	return m
}

func addId(m map[string]limited, name string, p api.Packet, path []int, get func(p *api.Packet) *api.TieId) {
	m[name+" Dir"] = limited{p, to(path, 1), 1, 2, func(p *api.Packet, n int) { get(p).Dir = n }}
	m[name+" Origin"] = limited{p, to(path, 2), 1, 1000, func(p *api.Packet, n int) { get(p).Origin = n }}
	m[name+" Kind"] = limited{p, to(path, 3), 1, 4, func(p *api.Packet, n int) { get(p).Kind = n }}
	m[name+" Nr"] = limited{p, to(path, 4), 0, 65535, func(p *api.Packet, n int) { get(p).Nr = n }}
}

func to(path []int, id int) []int { return append(slices.Clone(path), id) }

// place returns where a field begins that is found by going, from Id to Id, into
// the last field of it.
func place(l []api.Item, path ...int) int {
	found := -1
	for i := 0; i < len(l) && l[i].Kind != api.ItemClose; i += size(l[i:]) {
		if l[i].Id == path[0] {
			found = i
		}
	}
	if len(path) == 1 {
		return found
	}
	return found + 1 + place(l[found+1:], path[1:]...)
}

func (x limited) good() []int {
	return []int{x.least, x.most, (x.least + x.most) / 2}
}

func (x limited) bad() []int {
	return []int{x.least - 1, x.most + 1, math.MinInt, math.MaxInt, x.least - 1<<32, x.most + 1<<32, x.least - 1<<62}
}

// with returns the packet with that number, and its fields.
func (x limited) with(n int) (api.Packet, []api.Item) {
	l := clone(wire.Items(x.p))
	l[place(l, x.path...)].N = n
	p := clonePacket(x.p)
	x.set(&p, n)
	return p, l
}

// wrongPackets are packets that are not valid but for their numbers' limits.
func wrongPackets() map[string]api.Packet {
	m := map[string]api.Packet{
		"the zero one":            {},
		"Kind 0 with a Lie":       {Lie: sampleLie().Lie},
		"Kind 5":                  {Kind: 5},
		"Kind -1":                 {Kind: -1},
		"the least Kind":          {Kind: math.MinInt},
		"Kind 4 and 2^32":         {Kind: 1<<32 + 4},
		"a Lie of zeroes":         {Kind: api.KindLie},
		"a Tie of zeroes":         {Kind: api.KindTie},
		"a Tide of zeroes":        {Kind: api.KindTide},
		"a Tide with no To":       {Kind: api.KindTide, From: sampleId(1)},
		"a Tide with no From":     {Kind: api.KindTide, To: sampleId(1)},
		"a Tire with a zero Head": {Kind: api.KindTire, Heads: []api.Head{{}}},
	}
	for _, p := range []api.Packet{sampleLie(), sampleNode(), sampleTide(), {Kind: api.KindTire}} {
		for name, change := range parts() {
			q := clonePacket(p)
			if used := change(&q); !slices.Contains(used, p.Kind) {
				m["Kind "+strconv.Itoa(p.Kind)+" with "+name] = q
			}
		}
	}
	for name, change := range wrongTies() {
		p := sampleNets(api.TiePrefix)
		if strings.HasPrefix(name, "a node") {
			p = sampleNode()
		}
		change(&p.Tie)
		m[name] = p
	}
	for _, p := range []api.Packet{sampleTide(), {Kind: api.KindTire}} {
		p.Heads = slices.Repeat([]api.Head{{Id: sampleId(1)}}, 65)
		m["Kind "+strconv.Itoa(p.Kind)+" with 65 Heads"] = p
	}
	return m
}

// parts each set a part of a packet, and tell the Kinds that use it.
func parts() map[string]func(p *api.Packet) []int {
	lie, tie, tide := []int{api.KindLie}, []int{api.KindTie}, []int{api.KindTide}
	return map[string]func(p *api.Packet) []int{
		"Lie.Node":      func(p *api.Packet) []int { p.Lie.Node = 1; return lie },
		"Lie.Level":     func(p *api.Packet) []int { p.Lie.Level = -1; return lie },
		"Lie.SeenNonce": func(p *api.Packet) []int { p.Lie.SeenNonce = 1; return lie },
		"Lie.Hold":      func(p *api.Packet) []int { p.Lie.Hold = 1; return lie },
		"Lie.Repeat":    func(p *api.Packet) []int { p.Lie.Repeat = true; return lie },
		"Lie.NoOffer":   func(p *api.Packet) []int { p.Lie.NoOffer = true; return lie },
		"Tie.Head":      func(p *api.Packet) []int { p.Tie.Head.Life = 1; return tie },
		"Tie.Head.Id":   func(p *api.Packet) []int { p.Tie.Head.Id = sampleId(1); return tie },
		"Tie.Level":     func(p *api.Packet) []int { p.Tie.Level = 1; return tie },
		"Tie.Overload":  func(p *api.Packet) []int { p.Tie.Overload = true; return tie },
		"Tie.Edges":     func(p *api.Packet) []int { p.Tie.Edges = sampleNode().Tie.Edges; return tie },
		"Tie.Reaches":   func(p *api.Packet) []int { p.Tie.Reaches = make([]api.Reach, 1); return tie },
		"From":          func(p *api.Packet) []int { p.From.Nr = 1; return tide },
		"To":            func(p *api.Packet) []int { p.To.Dir = api.South; return tide },
		"Heads": func(p *api.Packet) []int {
			p.Heads = sampleTire().Heads
			return []int{api.KindTide, api.KindTire}
		},
	}
}

func wrongTies() map[string]func(x *api.Tie) {
	reach := func(net uint32, bits int) func(x *api.Tie) {
		return func(x *api.Tie) { x.Reaches[1].Prefix = api.Prefix{Net: net, Bits: bits} }
	}
	m := map[string]func(x *api.Tie){
		"a node with a Reach":     func(x *api.Tie) { x.Reaches = make([]api.Reach, 1) },
		"a node with 65 Edges":    func(x *api.Tie) { x.Edges = slices.Repeat(x.Edges[:1], 65) },
		"a node with a zero Edge": func(x *api.Tie) { x.Edges[1] = api.Edge{} },
		"a Kind of 0":             func(x *api.Tie) { x.Head.Id.Kind = 0 },
		"a Kind of 5":             func(x *api.Tie) { x.Head.Id.Kind = 5 },
		"nets and overload":       func(x *api.Tie) { x.Overload = true },
		"nets and an Edge":        func(x *api.Tie) { x.Edges = sampleNode().Tie.Edges[:1] },
		"65 nets":                 func(x *api.Tie) { x.Reaches = slices.Repeat(x.Reaches[:1], 65) },
		"a net of 0 bits":         reach(1<<31, 0),
		"a net of 8 bits":         reach(10<<24|1, 8),
		"a net of 8 bits, by one": reach(10<<24|1<<23, 8),
		"a net of 31 bits":        reach(1, 31),
		"a net of 33 bits":        reach(0, 33),
		"a net of -1 bits":        reach(0, -1),
		"a net of few bits":       reach(0, math.MinInt),
		"a net of many bits":      reach(0, math.MaxInt),
		"a net of 8 and 2^32":     reach(10<<24, 1<<32+8),
	}
	for _, kind := range []int{api.TiePositive, api.TieNegative} {
		for name, change := range map[string]func(x *api.Tie){
			"level":    func(x *api.Tie) { x.Level = 1 },
			"overload": m["nets and overload"],
			"an Edge":  m["nets and an Edge"],
		} {
			m["Kind "+strconv.Itoa(kind)+" with "+name] = func(x *api.Tie) { x.Head.Id.Kind = kind; change(x) }
		}
	}
	return m
}

// largest are packets whose encodings are as long as those of their Kind may be.
func largest() []api.Packet {
	id := api.TieId{Dir: api.North, Origin: 1000, Kind: api.TieNode, Nr: 65535}
	head := api.Head{Id: id, Seq: 1 << 40, Life: 604800}
	heads := slices.Repeat([]api.Head{head}, 64)
	nets := api.Tie{Head: head, Reaches: slices.Repeat([]api.Reach{{Prefix: api.Prefix{Net: math.MaxUint32, Bits: 32}, Metric: 1 << 20}}, 64)}
	nets.Head.Id.Kind = api.TieNegative
	return []api.Packet{
		{Kind: api.KindLie, Lie: api.Lie{Node: 1000, Level: 24, Pod: 65535, Mtu: 65535, Link: 65535, Nonce: 65535,
			Seen: 1000, SeenLink: 65535, SeenNonce: 65535, Hold: 65535, Repeat: true, NoOffer: true}},
		{Kind: api.KindTie, Tie: api.Tie{Head: head, Level: 24, Overload: true,
			Edges: slices.Repeat([]api.Edge{{Node: 1000, Level: 24, Cost: 1 << 20}}, 64)}},
		{Kind: api.KindTie, Tie: nets},
		{Kind: api.KindTide, From: id, To: id, Heads: heads},
		{Kind: api.KindTire, Heads: heads},
	}
}

func checkRight(t *testing.T, p api.Packet, l []api.Item) {
	t.Helper()
	if !wire.Right(p) {
		t.Error("not Right:", p)
	}
	if m := wire.Items(p); !same(m, l) {
		t.Errorf("Items of %v: %v, not %v", p, m, l)
	}
	want, _ := value.Encode(l)
	if b, e := wire.Encode(p); e != api.OK || !bytes.Equal(b, want) {
		t.Errorf("Encode of %v: %v, error %v; not %v", p, b, e, want)
	}
}

func checkWrong(t *testing.T, p api.Packet) {
	t.Helper()
	if wire.Right(p) {
		t.Error("Right:", p)
	}
	if l := wire.Items(p); len(l) != 0 {
		t.Error("Items:", l)
	}
	if b, e := wire.Encode(p); e != api.ErrArg || len(b) != 0 {
		t.Error("Encode:", b, e)
	}
}

func encoded(t *testing.T, l []api.Item) []byte {
	t.Helper()
	b, e := value.Encode(l)
	if e != api.OK {
		t.Fatal("no record:", l, e)
	}
	return b
}

func checkDecode(t *testing.T, l []api.Item, want api.Packet) {
	t.Helper()
	if p, e := wire.Decode(encoded(t, l)); e != api.OK || !samePacket(p, want) {
		t.Errorf("Decode of %v: %v, error %v; not %v", l, p, e, want)
	}
}

func checkNoPacket(t *testing.T, b []byte) {
	t.Helper()
	if p, e := wire.Decode(b); e != api.ErrForm || !reflect.DeepEqual(p, api.Packet{}) {
		t.Error("Decode:", b, p, e)
	}
}

// P3.1

func TestValidPackets(t *testing.T) {
	for name, x := range examples() {
		t.Run(name, func(t *testing.T) { checkRight(t, x.p, x.l) })
	}
}

func TestEncodeExample(t *testing.T) {
	if b, e := wire.Encode(api.Packet{Kind: api.KindTire}); e != api.OK || !bytes.Equal(b, []byte{4, 8}) {
		t.Error(b, e)
	}
}

func TestLimitsOfNumbers(t *testing.T) {
	for name, x := range limits() {
		t.Run(name, func(t *testing.T) {
			for _, n := range x.good() {
				p, l := x.with(n)
				checkRight(t, p, l)
			}
			for _, n := range x.bad() {
				p, _ := x.with(n)
				checkWrong(t, p)
			}
		})
	}
}

func TestPrefixes(t *testing.T) {
	for bits := 0; bits <= 32; bits++ {
		for low := 0; low < 32; low++ {
			p := sampleNets(api.TiePrefix)
			p.Tie.Reaches[0].Prefix = api.Prefix{Net: 1 << low, Bits: bits}
			if is := wire.Right(p); is != (low >= 32-bits) {
				t.Error(bits, low, is)
			}
		}
	}
}

func TestWrongPackets(t *testing.T) {
	for name, p := range wrongPackets() {
		t.Run(name, func(t *testing.T) { checkWrong(t, p) })
	}
}

func TestLargestPackets(t *testing.T) {
	for _, p := range largest() {
		l := wire.Items(p)
		checkRight(t, p, l)
		checkDecode(t, l, p)
	}
}

func TestPacketIsLeftAlone(t *testing.T) {
	for name, x := range examples() {
		p := clonePacket(x.p)
		first := wire.Items(p)
		b, _ := wire.Encode(p)
		wire.Right(p)
		if !samePacket(p, x.p) {
			t.Error(name, "is changed:", p)
		}
		for i := range first {
			first[i] = api.Item{}
		}
		clear(b)
		checkRight(t, p, x.l)
	}
}

// P3.2

// schema has the paths of Ids of all fields that a packet may have: the Ids of
// the fields around one, and its own. It stands for the words of the document.
func schema() map[string]bool {
	m := map[string]bool{}
	add := func(around string, most int) {
		for id := 1; id <= most; id++ {
			m[around+strconv.Itoa(id)] = true
		}
	}
	for around, most := range map[string]int{
		"": 6, "2 ": 12,
		"3 ": 5, "3 1 ": 3, "3 1 1 ": 4, "3 4 ": 3, "3 5 ": 3,
		"4 ": 4, "5 ": 4, "6 ": 3, "6 1 ": 4,
	} {
		add(around, most)
	}
	return m
}

// listed tells whether the schema has the field of that path, or what is not
// examined is around it.
func listed(schema map[string]bool, path []int) bool {
	structs := []string{"2", "3", "3 1", "3 1 1", "3 4", "3 5", "4", "5", "6", "6 1"}
	name := ""
	for i, id := range path {
		if i > 0 {
			name += " "
		}
		name += strconv.Itoa(id)
		if !schema[name] {
			return false
		}
		if !slices.Contains(structs, name) {
			return true
		}
	}
	return true
}

// known is what Known returns, by looking at each item's whole path.
func known(l []api.Item) []api.Item {
	var kept []api.Item
	var path []int
	all := schema()
	for _, x := range l {
		whole := path
		if x.Kind != api.ItemClose {
			whole = append(slices.Clone(path), x.Id)
		}
		if listed(all, whole) {
			kept = append(kept, x)
		}
		switch x.Kind {
		case api.ItemOpen:
			path = whole
		case api.ItemClose:
			path = path[:len(path)-1]
		}
	}
	return kept
}

func TestKnownOfPackets(t *testing.T) {
	for name, x := range examples() {
		if l := wire.Known(x.l); !same(l, x.l) {
			t.Error(name, l)
		}
	}
}

func TestKnown(t *testing.T) {
	strange := within(50, numbers(1, 2), within(1, numbers(3)))
	deep := within(1, within(9, one(text(1000, 5)), within(50)), one(number(77, 1)))
	for name, x := range map[string]struct{ l, want []api.Item }{
		"nothing":                        {nil, nil},
		"nothing that is known":          {strange, nil},
		"a field 7":                      {numbers(1, 2, 3, 4, 5, 6, 7), numbers(1, 2, 3, 4, 5, 6)},
		"a field 7 within, and bytes":    {record(one(text(7, 1)), within(2, one(text(13, 1)), one(text(12, 1)))), within(2, one(text(12, 1)))},
		"between":                        {record(strange, one(number(1, 4)), strange, strange, within(6), strange), record(one(number(1, 4)), within(6))},
		"a number with fields":           {deep, deep},
		"a number with fields, deeper":   {within(3, within(1, within(2, strange))), within(3, within(1, within(2, strange)))},
		"a struct that is a number":      {record(one(number(2, 5)), within(3, one(number(1, 5)))), record(one(number(2, 5)), within(3, one(number(1, 5))))},
		"a struct that is bytes":         {record(one(text(6, 5, 6)), within(4, one(text(1)))), record(one(text(6, 5, 6)), within(4, one(text(1))))},
		"a wrong order, twice":           {record(one(number(6, 1)), one(number(1, 1)), one(number(6, 2))), record(one(number(6, 1)), one(number(1, 1)), one(number(6, 2)))},
		"known Ids within an unknown":    {record(one(number(1, 1)), within(9, within(1, numbers(1)), within(2, numbers(1)))), numbers(1)},
		"a Lie's Ids within a TieId":     {within(4, numbers(1, 2, 3, 4, 5, 6)), within(4, numbers(1, 2, 3, 4))},
		"a Lie's Ids within a Head":      {within(6, numbers(1, 2, 3, 4, 5, 6)), within(6, numbers(1, 2, 3))},
		"an unknown struct within a Lie": {within(2, within(13, numbers(1))), within(2)},
		"of all Kinds":                   {record(numbers(9), within(2), within(3), within(4), within(5), within(6)), record(numbers(9), within(2), within(3), within(4), within(5), within(6))},
	} {
		t.Run(name, func(t *testing.T) {
			if l := wire.Known(x.l); !same(l, x.want) {
				t.Errorf("%v, not %v", l, x.want)
			}
			if l := known(x.l); !same(l, x.want) {
				t.Errorf("the test's own: %v, not %v", l, x.want)
			}
		})
	}
}

func TestKnownOfNoRecord(t *testing.T) {
	for _, l := range [][]api.Item{
		{{}},
		{number(1, 4), {}},
		{number(1, 4), number(0, 4)},
		{number(1, 4), number(1001, 4)},
		{number(1, 4), open(2)},
		{number(1, 4), end()},
		{end(), open(2)},
		{{Kind: api.ItemInt, Id: 1, B: []byte{1}}},
		append(slices.Repeat(one(open(1)), 9), slices.Repeat(one(end()), 9)...),
		{{Kind: 5, Id: 1}},
		{{Kind: api.ItemOpen, Id: math.MinInt}, end()},
		{{Kind: api.ItemOpen, Id: math.MaxInt}, end()},
	} {
		if m := wire.Known(l); len(m) != 0 {
			t.Error(l, m)
		}
	}
}

func TestKnownByPaths(t *testing.T) {
	r := rand.New(rand.NewSource(3))
	for range 3000 {
		l := randomRecord(r, 8)
		m := clone(l)
		if k := wire.Known(l); !same(k, known(m)) {
			t.Fatalf("%v: %v, not %v", l, k, known(m))
		}
		if !same(l, m) {
			t.Fatal("changed:", l, m)
		}
	}
}

func TestKnownIsNew(t *testing.T) {
	l := record(one(text(1, 1, 2)), within(2, one(text(1, 3))))
	m := clone(l)
	k := wire.Known(l)
	for i := range k {
		clear(k[i].B)
		k[i].Id = 99
	}
	if !same(l, m) {
		t.Error(l)
	}
}

// randomRecord returns a record of few fields, most of which are known.
func randomRecord(r *rand.Rand, deep int) []api.Item {
	var l []api.Item
	for range r.Intn(5) {
		id := 1 + r.Intn(7)
		if r.Intn(5) == 0 {
			id = 1 + r.Intn(14)
		}
		switch kind := r.Intn(6); {
		case kind == 0:
			l = append(l, number(id, r.Intn(9)-4))
		case kind == 1:
			l = append(l, text(id, byte(r.Intn(256))))
		case deep > 0:
			l = append(l, within(id, randomRecord(r, deep-1))...)
		}
	}
	return l
}

func TestDecode(t *testing.T) {
	for name, x := range examples() {
		t.Run(name, func(t *testing.T) { checkDecode(t, x.l, x.p) })
	}
}

func TestDecodeLimitsOfNumbers(t *testing.T) {
	for name, x := range limits() {
		t.Run(name, func(t *testing.T) {
			for _, n := range x.good() {
				p, l := x.with(n)
				checkDecode(t, l, p)
			}
			for _, n := range x.bad() {
				_, l := x.with(n)
				checkNoPacket(t, encoded(t, l))
			}
		})
	}
}

func TestDecodeWrongFields(t *testing.T) {
	for name, x := range examples() {
		t.Run(name, func(t *testing.T) {
			for i, y := range x.l {
				if y.Kind == api.ItemClose {
					continue
				}
				from, to := i, i+size(x.l[i:])
				field := slices.Clone(x.l[from:to])
				ahead, after := x.l[:from], x.l[to:]
				if y.Kind == api.ItemInt {
					checkNoPacket(t, encoded(t, record(ahead, after)))
				}
				for _, other := range [][]api.Item{
					one(text(y.Id, 1)), one(text(y.Id)), within(y.Id, one(number(99, 1))), one(number(y.Id, -2)),
				} {
					checkNoPacket(t, encoded(t, record(ahead, other, after)))
				}
				if !list(x.l, i) {
					checkNoPacket(t, encoded(t, record(ahead, after)))
					checkNoPacket(t, encoded(t, record(ahead, field, field, after)))
				}
			}
		})
	}
}

// size returns how many items the field has that l begins with.
func size(l []api.Item) int {
	depth := 0
	for i, x := range l {
		switch x.Kind {
		case api.ItemOpen:
			depth++
		case api.ItemClose:
			depth--
		}
		if depth == 0 {
			return i + 1
		}
	}
	return len(l)
}

// list tells whether the field at i is one of a list: an Edge or a Reach of a
// Tie, or a Head that is not the Tie's.
func list(l []api.Item, i int) bool {
	depth := 0
	for _, x := range l[:i] {
		switch x.Kind {
		case api.ItemOpen:
			depth++
		case api.ItemClose:
			depth--
		}
	}
	return l[i].Kind == api.ItemOpen && (depth == 0 && l[i].Id == 6 || depth == 1 && l[i].Id >= 4)
}

func TestDecodeWrongOrder(t *testing.T) {
	for name, x := range examples() {
		for i := range x.l {
			j := i + size(x.l[i:])
			if x.l[i].Kind == api.ItemClose || j >= len(x.l) || x.l[j].Kind == api.ItemClose {
				continue
			}
			k := j + size(x.l[j:])
			if x.l[j].Id == x.l[i].Id {
				continue
			}
			l := record(x.l[:i], x.l[j:k], x.l[i:j], x.l[k:])
			t.Run(name+" "+strconv.Itoa(i), func(t *testing.T) { checkNoPacket(t, encoded(t, l)) })
		}
	}
}

func TestDecodeOtherKinds(t *testing.T) {
	for name, x := range examples() {
		for kind := -1; kind <= 6; kind++ {
			l := clone(x.l)
			l[0].N = kind
			if kind != x.p.Kind {
				t.Run(name+" as "+strconv.Itoa(kind), func(t *testing.T) { checkNoPacket(t, encoded(t, l)) })
			}
		}
	}
}

func TestDecodeNoPackets(t *testing.T) {
	nets := examples()["a Tie of prefixes"].l
	node := examples()["a Tie of a node"].l
	reach := within(5, numbers(0, 0, 0))
	edge := within(4, numbers(1, 1, 1))
	change := func(l []api.Item, n int, path ...int) []api.Item {
		l = clone(l)
		l[place(l, path...)].N = n
		return l
	}
	lie := examples()["a Lie"].l
	for name, l := range map[string][]api.Item{
		"nothing":                 nil,
		"nothing that is known":   within(50, numbers(4)),
		"Kind alone":              numbers(1),
		"a Lie and a Tie":         record(lie, node[1:]),
		"a Lie and a Head":        record(lie, within(6, within(1, numbers(1, 1, 1, 0)), one(number(2, 0)), one(number(3, 0)))),
		"a Tire and a From":       record(numbers(4), within(4, numbers(1, 1, 1, 0))),
		"Repeat of 2":             change(lie, 2, 2, 11),
		"Repeat of -1":            change(lie, -1, 2, 11),
		"NoOffer of 2":            change(lie, 2, 2, 12),
		"NoOffer of 2^32":         change(lie, 1<<32, 2, 12),
		"Overload of 2":           change(node, 2, 3, 3),
		"nets that are overload":  change(nets, 1, 3, 3),
		"nets of a level":         change(nets, 1, 3, 2),
		"a net of 2^32":           change(nets, 1<<32, 3, 5, 1),
		"a net below 0":           change(nets, -1, 3, 5, 1),
		"a net of too many bits":  change(nets, 1, 3, 5, 1),
		"a node with a Reach":     record(node[:len(node)-1], reach, one(end())),
		"nets with an Edge":       record(nets[:len(nets)-1], edge, one(end())),
		"nets with Edges ahead":   record(nets[:14], edge, nets[14:]),
		"a node with 65 Edges":    record(node[:len(node)-1], slices.Repeat(edge, 63), one(end())),
		"65 nets":                 record(nets[:len(nets)-1], slices.Repeat(reach, 63), one(end())),
		"65 Heads":                record(numbers(4), slices.Repeat(within(6, within(1, numbers(1, 1, 1, 0)), one(number(2, 0)), one(number(3, 0))), 65)),
		"a packet twice":          record(lie, lie),
		"a Kind twice":            record(numbers(1), lie),
		"a number after it":       record(lie, numbers(1)),
		"a Kind that has fields":  within(1, numbers(4)),
		"a number that has some":  record(lie[:2], within(1, one(number(1, 11))), lie[3:]),
		"a number with a strange": record(lie[:2], within(1, one(number(99, 11))), lie[3:]),
		"a strange struct's Lie":  record(numbers(1), within(9, lie[2:len(lie)-1])),
		"TieIds' fields alone":    record(numbers(3), numbers(1, 1, 1, 0), numbers(1, 1, 1, 0)),
		"a Tie's fields, no Head": record(numbers(2), within(3, within(1, numbers(1, 1, 2, 0), one(number(2, 7)), one(number(3, 60))), one(number(2, 0)), one(number(3, 0)))),
		"no number at the end":    record(lie[:len(lie)-2], one(end())),
		"a number out of a Tie":   record(node[:len(node)-1], one(end()), numbers(2)),
	} {
		t.Run(name, func(t *testing.T) { checkNoPacket(t, encoded(t, l)) })
	}
	more := record(node[:len(node)-1], slices.Repeat(edge, 62), one(end()))
	if p, e := wire.Decode(encoded(t, more)); e != api.OK || len(p.Tie.Edges) != 64 {
		t.Error("64 Edges:", e)
	}
}

func TestDecodeNoRecords(t *testing.T) {
	for _, b := range [][]byte{
		nil, {}, {0}, {4}, {4, 8, 0}, {4, 8, 3}, {4, 8, 4}, {3, 4, 8}, {6}, {4, 136, 0}, {4, 8, 10, 3, 10},
		make([]byte, 5000), bytes.Repeat([]byte{255}, 100), append([]byte{4, 8}, bytes.Repeat([]byte{200, 6, 2}, 2000)...),
	} {
		checkNoPacket(t, b)
	}
}

func TestDecodedIsNew(t *testing.T) {
	for _, p := range []api.Packet{sampleNode(), sampleNets(2), sampleTide()} {
		b, _ := wire.Encode(p)
		c := bytes.Clone(b)
		q, _ := wire.Decode(b)
		if !bytes.Equal(b, c) {
			t.Error("changed:", b, c)
		}
		clear(b)
		if !samePacket(p, q) {
			t.Error(q)
		}
	}
}

// P3.3

func randomId(r *rand.Rand) api.TieId {
	return api.TieId{Dir: 1 + r.Intn(2), Origin: 1 + r.Intn(1000), Kind: 1 + r.Intn(4), Nr: r.Intn(65536)}
}

func randomHeads(r *rand.Rand) []api.Head {
	var l []api.Head
	for range few(r) {
		l = append(l, api.Head{Id: randomId(r), Seq: r.Intn(1<<40 + 1), Life: r.Intn(604801)})
	}
	return l
}

// few returns how long a list is: it is mostly short, and never more than 64.
func few(r *rand.Rand) int {
	if r.Intn(10) > 0 {
		return r.Intn(4)
	}
	return r.Intn(65)
}

func randomTie(r *rand.Rand) api.Tie {
	x := api.Tie{Head: api.Head{Id: randomId(r), Seq: r.Intn(1<<40 + 1), Life: r.Intn(604801)}}
	node := x.Head.Id.Kind == api.TieNode
	if node {
		x.Level, x.Overload = r.Intn(25), r.Intn(2) == 0
	}
	for range few(r) {
		if node {
			x.Edges = append(x.Edges, api.Edge{Node: 1 + r.Intn(1000), Level: r.Intn(25), Cost: 1 + r.Intn(1<<20)})
			continue
		}
		bits := r.Intn(33)
		net := r.Uint32() & ^uint32(1<<(32-bits)-1)
		x.Reaches = append(x.Reaches, api.Reach{Prefix: api.Prefix{Net: net, Bits: bits}, Metric: r.Intn(1<<20 + 1)})
	}
	return x
}

func randomPacket(r *rand.Rand) api.Packet {
	short := func() int { return r.Intn(65536) }
	p := api.Packet{Kind: 1 + r.Intn(4)}
	switch p.Kind {
	case api.KindLie:
		p.Lie = api.Lie{Node: 1 + r.Intn(1000), Level: r.Intn(26) - 1, Pod: short(), Mtu: short(), Link: short(), Nonce: short(),
			Seen: r.Intn(1001), SeenLink: short(), SeenNonce: short(), Hold: short(), Repeat: r.Intn(2) == 0, NoOffer: r.Intn(2) == 0}
	case api.KindTie:
		p.Tie = randomTie(r)
	case api.KindTide:
		p.From, p.To, p.Heads = randomId(r), randomId(r), randomHeads(r)
	case api.KindTire:
		p.Heads = randomHeads(r)
	}
	return p
}

func TestDecodeInvertsEncode(t *testing.T) {
	r := rand.New(rand.NewSource(31))
	for range 5000 {
		p := randomPacket(r)
		b, e := wire.Encode(p)
		if e != api.OK {
			t.Fatal(p, e)
		}
		q, f := wire.Decode(b)
		if f != api.OK || !samePacket(p, q) || !wire.Right(q) {
			t.Fatal(p, q, f)
		}
		if c, g := wire.Encode(q); g != api.OK || !bytes.Equal(b, c) {
			t.Fatal(b, c, g)
		}
	}
}

// unknownFields adds fields that are unknown where they stand.
func unknownFields(r *rand.Rand, l []api.Item) []api.Item {
	var m []api.Item
	depth := 0
	for _, x := range append(slices.Clone(l), end()) {
		if r.Intn(3) == 0 {
			id := []int{13, 14, 50, 1000}[r.Intn(4)]
			if depth == 0 && r.Intn(2) == 0 {
				id = 7
			}
			m = append(m, [][]api.Item{
				one(number(id, r.Int())), one(text(id, 1, 2, 3)), within(id, numbers(1, 2), within(2, l[:1])),
			}[r.Intn(3)]...)
		}
		switch x.Kind {
		case api.ItemOpen:
			depth++
		case api.ItemClose:
			depth--
		}
		m = append(m, x)
	}
	return m[:len(m)-1]
}

func TestUnknownFieldsAreSkipped(t *testing.T) {
	r := rand.New(rand.NewSource(32))
	for range 2000 {
		p := randomPacket(r)
		l := unknownFields(r, wire.Items(p))
		b, e := value.Encode(l)
		if e == api.ErrFull {
			continue
		}
		if q, f := wire.Decode(b); f != api.OK || !samePacket(p, q) {
			t.Fatal(p, l, q, f)
		}
	}
}

// checkBytes holds Decode against its definition.
func checkBytes(t *testing.T, b []byte) {
	t.Helper()
	l, e := value.Decode(b)
	k := wire.Known(l)
	p, f := wire.Decode(b)
	if f == api.OK {
		if e != api.OK || !wire.Right(p) || !same(wire.Items(p), k) {
			t.Fatal(b, p, e)
		}
		return
	}
	if f != api.ErrForm || !reflect.DeepEqual(p, api.Packet{}) {
		t.Fatal(b, p, f)
	}
}

func TestDecodeAnyBytes(t *testing.T) {
	r := rand.New(rand.NewSource(33))
	for range 20000 {
		b, _ := wire.Encode(randomPacket(r))
		for range r.Intn(3) {
			b[r.Intn(len(b))] = byte(r.Intn(256))
		}
		checkBytes(t, b[:len(b)-r.Intn(2)])
	}
	for range 20000 {
		b := make([]byte, r.Intn(20))
		r.Read(b)
		checkBytes(t, b)
	}
}

func FuzzBytes(f *testing.F) {
	for _, x := range examples() {
		b, _ := value.Encode(x.l)
		f.Add(b)
	}
	f.Fuzz(func(t *testing.T, b []byte) { checkBytes(t, b) })
}
