package wire

import "selvage/api"

// writer appends the fields of a packet.
type writer struct {
	items []api.Item
}

// write returns the fields of a packet, and whether it is valid.
func write(p api.Packet) ([]api.Item, bool) {
	var w writer
	t := traversal{number: w.number, open: w.open, end: w.end, more: w.more}
	t.packet(&p)
	return w.items, !t.wrong && unused(p)
}

func (w *writer) number(id int, n *int) bool {
	w.items = append(w.items, api.Item{Kind: api.ItemInt, Id: id, N: *n})
	return true
}

func (w *writer) open(id int) bool {
	w.items = append(w.items, api.Item{Kind: api.ItemOpen, Id: id})
	return true
}

func (w *writer) end() bool {
	w.items = append(w.items, api.Item{Kind: api.ItemClose})
	return true
}

func (w *writer) more(id int, is bool) bool { return is }

// reader takes the fields of a packet from a record.
type reader struct {
	left []api.Item
}

// read returns the packet that has exactly those fields, and whether there is a
// valid one.
func read(l []api.Item) (api.Packet, bool) {
	r := reader{left: l}
	t := traversal{number: r.number, open: r.open, end: r.end, more: r.more}
	var p api.Packet
	t.packet(&p)
	return p, !t.wrong && len(r.left) == 0
}

func (r *reader) number(id int, n *int) bool {
	is := r.next(api.ItemInt, id)
	if is {
		*n = r.left[0].N
		r.left = r.left[1:]
	}
	return is
}

func (r *reader) open(id int) bool { return r.skip(api.ItemOpen, id) }

func (r *reader) end() bool { return r.skip(api.ItemClose, 0) }

func (r *reader) more(id int, is bool) bool { return r.next(api.ItemOpen, id) }

// next reports whether the next item is of that Kind and Id.
func (r *reader) next(kind, id int) bool {
	return len(r.left) > 0 && r.left[0].Kind == kind && r.left[0].Id == id
}

// skip takes the next item if it is of that Kind and Id, and reports whether it
// is.
func (r *reader) skip(kind, id int) bool {
	is := r.next(kind, id)
	if is {
		r.left = r.left[1:]
	}
	return is
}
