package wire

import (
	"math"

	"selvage/api"
)

// maxShort is the greatest of the numbers that have no limit of their own.
const maxShort = 65535

// traversal goes through the fields of a packet in their order, and holds each
// against what is valid. Whether that writes the fields or reads them is up to
// its functions, each of which reports whether the field is as it should be.
type traversal struct {
	number func(id int, n *int) bool
	open   func(id int) bool
	end    func() bool

	// more reports whether another field of that Id follows; is tells whether
	// the packet has another one.
	more func(id int, is bool) bool

	wrong bool
}

func (t *traversal) must(is bool) {
	if !is {
		t.wrong = true
	}
}

func (t *traversal) between(id int, n *int, least, most int) {
	t.must(t.number(id, n))
	t.must(least <= *n && *n <= most)
}

// flag goes through a bool, which is a number from 0 to most.
func (t *traversal) flag(id int, is *bool, most int) {
	n := 0
	if *is {
		n = 1
	}
	t.between(id, &n, 0, most)
	*is = n == 1
}

// within goes through a struct, whose fields are gone through by that function.
func (t *traversal) within(id int, fields func()) {
	t.must(t.open(id))
	fields()
	t.must(t.end())
}

// each goes through a list of at most so many structs, and returns it. It goes
// through copies: what is written belongs to the caller of the package.
func each[E any](t *traversal, id int, l []E, most int, fields func(*E)) []E {
	var gone []E
	for t.more(id, len(gone) < len(l)) {
		if len(gone) == most {
			t.must(false)
			break
		}
		var x E
		if len(gone) < len(l) {
			x = l[len(gone)]
		}
		t.within(id, func() { fields(&x) })
		gone = append(gone, x)
	}
	return gone
}

func (t *traversal) packet(p *api.Packet) {
	t.between(1, &p.Kind, api.KindLie, api.KindTire)
	switch p.Kind {
	case api.KindLie:
		t.within(2, func() { t.lie(&p.Lie) })
	case api.KindTie:
		t.within(3, func() { t.tie(&p.Tie) })
	case api.KindTide:
		t.within(4, func() { t.tieId(&p.From) })
		t.within(5, func() { t.tieId(&p.To) })
		p.Heads = each(t, 6, p.Heads, api.MaxLinks, t.head)
	case api.KindTire:
		p.Heads = each(t, 6, p.Heads, api.MaxLinks, t.head)
	}
}

func (t *traversal) lie(x *api.Lie) {
	t.between(1, &x.Node, 1, api.MaxNode)
	t.between(2, &x.Level, -1, api.MaxLevel)
	t.between(3, &x.Pod, 0, maxShort)
	t.between(4, &x.Mtu, 0, maxShort)
	t.between(5, &x.Link, 0, maxShort)
	t.between(6, &x.Nonce, 0, maxShort)
	t.between(7, &x.Seen, 0, api.MaxNode)
	t.between(8, &x.SeenLink, 0, maxShort)
	t.between(9, &x.SeenNonce, 0, maxShort)
	t.between(10, &x.Hold, 0, maxShort)
	t.flag(11, &x.Repeat, 1)
	t.flag(12, &x.NoOffer, 1)
}

func (t *traversal) tieId(x *api.TieId) {
	t.between(1, &x.Dir, api.South, api.North)
	t.between(2, &x.Origin, 1, api.MaxNode)
	t.between(3, &x.Kind, api.TieNode, api.TieNegative)
	t.between(4, &x.Nr, 0, maxShort)
}

func (t *traversal) head(x *api.Head) {
	t.within(1, func() { t.tieId(&x.Id) })
	t.between(2, &x.Seq, 0, api.MaxSeq)
	t.between(3, &x.Life, 0, api.MaxLife)
}

func (t *traversal) tie(x *api.Tie) {
	t.within(1, func() { t.head(&x.Head) })
	// The limits of a node's fields and of other ones: a Tie's Kind tells which
	// of these are zero.
	level, overload, edges, reaches := 0, 0, 0, api.MaxLinks
	if x.Head.Id.Kind == api.TieNode {
		level, overload, edges, reaches = api.MaxLevel, 1, api.MaxLinks, 0
	}
	t.between(2, &x.Level, 0, level)
	t.flag(3, &x.Overload, overload)
	x.Edges = each(t, 4, x.Edges, edges, t.edge)
	x.Reaches = each(t, 5, x.Reaches, reaches, t.reach)
}

func (t *traversal) edge(x *api.Edge) {
	t.between(1, &x.Node, 1, api.MaxNode)
	t.between(2, &x.Level, 0, api.MaxLevel)
	t.between(3, &x.Cost, 1, api.MaxMetric)
}

func (t *traversal) reach(x *api.Reach) {
	net := int(x.Prefix.Net)
	t.between(1, &net, 0, math.MaxUint32)
	x.Prefix.Net = uint32(net)
	t.between(2, &x.Prefix.Bits, 0, 32)
	// The shift leaves the bits after those that count, and none for any wrong
	// number of bits, which no shift may have as it is.
	t.must(x.Prefix.Net<<uint(x.Prefix.Bits) == 0)
	t.between(3, &x.Metric, 0, api.MaxMetric)
}
