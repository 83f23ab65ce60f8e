package value_test

import (
	"bytes"
	"encoding/binary"
	"math"
	"math/rand"
	"slices"
	"strconv"
	"strings"
	"testing"

	"selvage/api"
	"selvage/value"
)

func number(id, n int) api.Item { return api.Item{Kind: api.ItemInt, Id: id, N: n} }

func text(id int, b ...byte) api.Item { return api.Item{Kind: api.ItemBytes, Id: id, B: b} }

func open(id int) api.Item { return api.Item{Kind: api.ItemOpen, Id: id} }

func end() api.Item { return api.Item{Kind: api.ItemClose} }

// same compares by content, so that no bytes and nil are the same.
func same(l, m []api.Item) bool {
	return slices.EqualFunc(l, m, func(x, y api.Item) bool {
		return x.Kind == y.Kind && x.Id == y.Id && x.N == y.N && bytes.Equal(x.B, y.B)
	})
}

func clone(l []api.Item) []api.Item {
	l = slices.Clone(l)
	for i := range l {
		l[i].B = bytes.Clone(l[i].B)
	}
	return l
}

// nested returns a record whose fields are nested that deep.
func nested(depth int) []api.Item {
	return append(slices.Repeat([]api.Item{open(1)}, depth), slices.Repeat([]api.Item{end()}, depth)...)
}

// sample is a record with each Kind, within others and not, and an Id twice.
func sample() []api.Item {
	return []api.Item{
		number(1, 5),                                // 0
		open(2), text(1, 7, 8), number(9, 1), end(), // 1 to 4
		number(9, -1),                                // 5
		open(7), open(7), number(3, 4), end(), end(), // 6 to 10
		number(1, 6),   // 11
		text(1000),     // 12
		open(2), end(), // 13, 14
		text(9, 255, 0, 11), // 15
	}
}

func records() map[string][]api.Item {
	return map[string][]api.Item{
		"nothing":                   {},
		"nil":                       nil,
		"a number":                  {number(1, 5)},
		"the least Id":              {number(1, 0), text(1), open(1), end()},
		"the greatest Id":           {number(1000, 0), text(1000), open(1000), end()},
		"the least number":          {number(31, math.MinInt)},
		"the greatest number":       {number(32, math.MaxInt)},
		"bytes":                     {text(1, 0, 128, 255)},
		"no bytes":                  {text(1)},
		"no bytes, and not nil":     {{Kind: api.ItemBytes, Id: 1, B: []byte{}}},
		"an end with no bytes":      {open(1), {Kind: api.ItemClose, B: []byte{}}},
		"a beginning with no bytes": {{Kind: api.ItemOpen, Id: 1, B: []byte{}}, end()},
		"a number with no bytes":    {{Kind: api.ItemInt, Id: 1, B: []byte{}}},
		"the deepest":               nested(8),
		"the deepest, twice":        append(nested(8), nested(8)...),
		"descending, and twice":     {number(3, 1), number(2, 1), number(3, 1)},
		"of each Kind":              sample(),
		"bytes like an item's":      {text(1, 4, 10, 3, 3), text(2, 6)},
	}
}

func wrongRecords() map[string][]api.Item {
	m := map[string][]api.Item{
		"no Kind":                 {{Id: 1}},
		"all zero":                {{}},
		"Kind 5":                  {{Kind: 5, Id: 1}},
		"Kind -1":                 {{Kind: -1, Id: 1}},
		"the greatest Kind":       {{Kind: math.MaxInt, Id: 1}},
		"the least Kind":          {{Kind: math.MinInt, Id: 1}},
		"a number with bytes":     {{Kind: api.ItemInt, Id: 1, N: 1, B: []byte{0}}},
		"bytes with a number":     {{Kind: api.ItemBytes, Id: 1, N: 1, B: []byte{0}}},
		"no bytes, with a number": {{Kind: api.ItemBytes, Id: 1, N: -1}},
		"an open with a number":   {{Kind: api.ItemOpen, Id: 1, N: 1}, end()},
		"an open with bytes":      {{Kind: api.ItemOpen, Id: 1, B: []byte{0}}, end()},
		"an end with an Id":       {open(1), {Kind: api.ItemClose, Id: 1}},
		"an end with a number":    {open(1), {Kind: api.ItemClose, N: 1}},
		"an end with bytes":       {open(1), {Kind: api.ItemClose, B: []byte{0}}},
		"too deep":                nested(9),
		"far too deep":            nested(100),
		"too deep within":         append([]api.Item{open(5), number(1, 1)}, append(nested(8), end())...),
		"no end":                  {open(1)},
		"an end too few":          {open(1), open(1), end()},
		"an end alone":            {end()},
		"an end too many":         {open(1), end(), end()},
		"an end ahead":            {end(), open(1)},
		"an end ahead, and one":   {end(), open(1), end()},
		"ends ahead, and opens":   {end(), end(), open(1), open(1)},
		"a wrong one at the end":  append(sample(), api.Item{Kind: api.ItemInt}),
		"a wrong one within":      {open(1), number(0, 1), end()},
	}
	for _, kind := range []int{api.ItemInt, api.ItemBytes, api.ItemOpen} {
		for _, id := range []int{0, -1, 1001, 1<<32 + 1, 1<<62 + 1, math.MinInt, math.MaxInt} {
			l := []api.Item{{Kind: kind, Id: id}}
			if kind == api.ItemOpen {
				l = append(l, end())
			}
			m["Kind "+strconv.Itoa(kind)+", Id "+strconv.Itoa(id)] = l
		}
	}
	return m
}

// definition is the encoding, as the chapter tells it.
func definition(l []api.Item) []byte {
	var b []byte
	for _, x := range l {
		b = binary.AppendUvarint(b, uint64(4*x.Id+x.Kind-1))
		if x.Kind == api.ItemInt {
			b = binary.AppendVarint(b, int64(x.N))
		}
		if x.Kind == api.ItemBytes {
			b = append(binary.AppendUvarint(b, uint64(len(x.B))), x.B...)
		}
	}
	return b
}

// wrongBytes are no record's encoding.
func wrongBytes() map[string][]byte {
	greatest := append(bytes.Repeat([]byte{255}, 9), 1)
	return map[string][]byte{
		"a number cut off":                    {4},
		"a number cut off within":             {4, 128},
		"an Id cut off":                       {132},
		"an end alone":                        {3},
		"no end":                              {6},
		"an end too few":                      {6, 6, 3},
		"an end too many":                     {6, 3, 3},
		"an end with an Id":                   {6, 7},
		"an end ahead":                        {3, 6},
		"bytes that are missing":              {5, 9, 1},
		"a byte that is missing":              {5, 2, 1},
		"all bytes missing":                   {5, 1},
		"bytes without a length":              {5},
		"a length cut off":                    {5, 128},
		"Id 0, a number":                      {0, 0},
		"Id 0, bytes":                         {1, 0},
		"Id 0, an open":                       {2, 3},
		"Id 1001, a number":                   {164, 31, 0},
		"Id 1001, bytes":                      {165, 31, 0},
		"Id 1001, an open":                    {166, 31, 3},
		"the greatest Id, an end":             slices.Concat([]byte{6}, greatest),
		"the greatest Id, a number":           append(append([]byte{252}, greatest[1:]...), 0),
		"Id 2^61, a number":                   slices.Concat(bytes.Repeat([]byte{128}, 9), []byte{1, 0}),
		"Id 2^32 + 1, a number":               append(binary.AppendUvarint(nil, 4*(1<<32+1)), 0),
		"too long an Id":                      {132, 0, 0},
		"too long a number":                   {4, 138, 0},
		"too long a length":                   {5, 128, 0},
		"too long a length, and bytes":        {5, 129, 0, 1},
		"too long an end":                     {6, 131, 0},
		"the greatest length":                 slices.Concat([]byte{5}, greatest),
		"the greatest length, and bytes":      slices.Concat([]byte{5}, greatest, make([]byte, 100)),
		"2^63 bytes":                          slices.Concat([]byte{5}, bytes.Repeat([]byte{128}, 9), []byte{1, 0, 0}),
		"2^63 - 1 bytes":                      slices.Concat([]byte{5}, bytes.Repeat([]byte{255}, 8), []byte{127, 0, 0}),
		"2^63 - 8 bytes, behind others":       slices.Concat([]byte{4, 0, 5, 248}, bytes.Repeat([]byte{255}, 7), []byte{127, 0, 0}),
		"2^64, a number":                      slices.Concat([]byte{4}, bytes.Repeat([]byte{255}, 9), []byte{2}),
		"too deep":                            append(bytes.Repeat([]byte{6}, 9), bytes.Repeat([]byte{3}, 9)...),
		"a right one, and one that is cut":    append(definition(sample()), 4),
		"a right one, and an end":             append(definition(sample()), 3),
		"a right one, and Id 0":               append(definition(sample()), 0, 0),
		"a right one of 4097 bytes":           definition(long(4097)),
		"a right one of many more":            definition(long(1 << 20)),
		"numbers, 4098 bytes":                 bytes.Repeat([]byte{4, 0}, 2049),
		"a wrong one of many bytes":           make([]byte, 1<<20),
		"a record of a single item, too long": definition([]api.Item{text(1, make([]byte, 4095)...)}),
	}
}

// long returns a record of bytes and a number whose encoding has that many bytes.
func long(size int) []api.Item {
	n := size - 4 // the Id's byte, and the length's; the number's two
	for len(binary.AppendUvarint(nil, uint64(n)))+n > size-3 {
		n--
	}
	l := []api.Item{number(1, 5), text(1, bytes.Repeat([]byte{9}, n)...)}
	if len(definition(l)) != size {
		panic("no such record")
	}
	return l
}

// random returns a record of some fields, nested at most that deep.
func random(r *rand.Rand, depth int) []api.Item {
	var l []api.Item
	for range r.Intn(5) {
		id := 1 + r.Intn(6)
		if r.Intn(8) == 0 {
			id = 1 + r.Intn(1000)
		}
		switch r.Intn(3) {
		case 0:
			l = append(l, number(id, int(r.Uint64()>>r.Intn(64))))
		case 1:
			b := make([]byte, r.Intn(4))
			r.Read(b)
			l = append(l, text(id, b...))
		default:
			if depth > 0 {
				l = append(append(append(l, open(id)), random(r, depth-1)...), end())
			}
		}
	}
	return l
}

// P2.1

func TestRight(t *testing.T) {
	for name, l := range records() {
		if !value.Right(l) {
			t.Errorf("%s: Right(%v) = false", name, l)
		}
	}
	for name, l := range wrongRecords() {
		if value.Right(l) {
			t.Errorf("%s: Right(%v) = true", name, l)
		}
	}
}

// TestRightOfAnyOrder holds all orders of beginnings, ends and numbers against
// what is left of them when pairs that touch are taken away.
func TestRightOfAnyOrder(t *testing.T) {
	pieces := map[byte]api.Item{'(': open(1), ')': end(), '1': number(1, 1)}
	var check func(order string)
	check = func(order string) {
		var l []api.Item
		for i := range len(order) {
			l = append(l, pieces[order[i]])
		}
		left := strings.ReplaceAll(order, "1", "")
		for strings.Contains(left, "()") {
			left = strings.ReplaceAll(left, "()", "")
		}
		if is := value.Right(l); is != (left == "") {
			t.Errorf("%s: Right = %v", order, is)
		}
		if len(order) < 8 {
			check(order + "(")
			check(order + ")")
			check(order + "1")
		}
	}
	check("")
}

func TestEncodeExamples(t *testing.T) {
	for _, c := range []struct {
		l []api.Item
		b []byte
	}{
		{nil, nil},
		{[]api.Item{}, nil},
		{[]api.Item{number(1, 5)}, []byte{4, 10}},
		{[]api.Item{number(1, -5)}, []byte{4, 9}},
		{[]api.Item{number(31, 64)}, []byte{124, 128, 1}},
		{[]api.Item{number(32, 0)}, []byte{128, 1, 0}},
		{[]api.Item{number(1000, 0)}, []byte{160, 31, 0}},
		{[]api.Item{text(1000, 7)}, []byte{161, 31, 1, 7}},
		{[]api.Item{open(1000), end()}, []byte{162, 31, 3}},
		{[]api.Item{text(1)}, []byte{5, 0}},
		{[]api.Item{text(1, 3, 3)}, []byte{5, 2, 3, 3}},
		{[]api.Item{open(1), end()}, []byte{6, 3}},
		{[]api.Item{open(2), number(1, 1), end(), number(1, 1)}, []byte{10, 4, 2, 3, 4, 2}},
		{nested(8), []byte{6, 6, 6, 6, 6, 6, 6, 6, 3, 3, 3, 3, 3, 3, 3, 3}},
		{[]api.Item{text(2, make([]byte, 128)...)}, append([]byte{9, 128, 1}, make([]byte, 128)...)},
		{[]api.Item{number(1, math.MinInt)}, append([]byte{4}, append(bytes.Repeat([]byte{255}, 9), 1)...)},
	} {
		if b, e := value.Encode(c.l); !bytes.Equal(b, c.b) || e != api.OK {
			t.Errorf("Encode(%v) = %v, %d, want %v, 0", c.l, b, e, c.b)
		}
		if l, e := value.Decode(c.b); !same(l, c.l) || e != api.OK {
			t.Errorf("Decode(%v) = %v, %d, want %v, 0", c.b, l, e, c.l)
		}
	}
}

func TestEncodeIsTheDefinition(t *testing.T) {
	for name, l := range records() {
		if b, e := value.Encode(l); !bytes.Equal(b, definition(l)) || e != api.OK {
			t.Errorf("%s: Encode(%v) = %v, %d, want %v, 0", name, l, b, e, definition(l))
		}
	}
}

func TestEncodeRefuses(t *testing.T) {
	for name, l := range wrongRecords() {
		// With more than fits ahead of the fault, too: what is no record comes first.
		for _, m := range [][]api.Item{l, append(long(5000), l...)} {
			if b, e := value.Encode(m); len(b) != 0 || e != api.ErrArg {
				t.Errorf("%s: Encode = %v, %d, want nothing, 1", name, b, e)
			}
		}
	}
}

func TestEncodeFull(t *testing.T) {
	for _, c := range []struct {
		name string
		l    []api.Item
		fits bool
	}{
		{"bytes, 4095", long(4095), true},
		{"bytes, 4096", long(4096), true},
		{"bytes, 4097", long(4097), false},
		{"bytes, 2^20", long(1 << 20), false},
		{"numbers, 4096", slices.Repeat([]api.Item{number(1, 0)}, 2048), true},
		{"numbers, 4098", slices.Repeat([]api.Item{number(1, 0)}, 2049), false},
		{"numbers, 4096, with an empty field", append(slices.Repeat([]api.Item{number(1, 0)}, 2047), open(1), end()), true},
		{"an end that is too much", append(slices.Repeat([]api.Item{number(1, 0)}, 2046), number(1, 64), open(1), end()), false},
		{"a number that is too much", append(long(4095), number(1, 0)), false},
		{"no bytes that are too much", append(long(4095), text(1)), false},
		{"no bytes that fit", append(long(4094), text(1)), true},
		{"4096 with bytes at the end", []api.Item{number(1, 0), text(1, make([]byte, 4091)...)}, true},
		{"4097 with bytes at the end", []api.Item{number(1, 0), text(1, make([]byte, 4092)...)}, false},
	} {
		want, wantE := definition(c.l), api.OK
		if fits := len(want) <= 4096; fits != c.fits {
			t.Fatalf("%s: has %d bytes", c.name, len(want))
		}
		if !c.fits {
			want, wantE = nil, api.ErrFull
		}
		if b, e := value.Encode(c.l); !bytes.Equal(b, want) || e != wantE {
			t.Errorf("%s: Encode has %d bytes and %d, want %d and %d", c.name, len(b), e, len(want), wantE)
		}
	}
}

func TestDecodeExamples(t *testing.T) {
	if l, e := value.Decode([]byte{4, 10, 10, 5, 2, 7, 8, 3, 36, 1}); e != api.OK ||
		!same(l, []api.Item{number(1, 5), open(2), text(1, 7, 8), end(), number(9, -1)}) {
		t.Error(l, e)
	}
	for _, b := range [][]byte{nil, {}} {
		if l, e := value.Decode(b); len(l) != 0 || e != api.OK {
			t.Errorf("Decode of no bytes = %v, %d, want nothing, 0", l, e)
		}
	}
	if l, e := value.Decode(definition(long(4096))); !same(l, long(4096)) || e != api.OK {
		t.Errorf("Decode of 4096 bytes has %d items and %d", len(l), e)
	}
}

func TestDecodeRefuses(t *testing.T) {
	for name, b := range wrongBytes() {
		if l, e := value.Decode(b); len(l) != 0 || e != api.ErrForm {
			t.Errorf("%s: Decode(%v) = %v, %d, want nothing, 2", name, b[:min(len(b), 20)], l, e)
		}
	}
}

// TestDecodeRefusesWhatIsCutOff cuts a record off at each byte: it is one again
// where a field that is not within another one ends, and nowhere else.
func TestDecodeRefusesWhatIsCutOff(t *testing.T) {
	whole := sample()
	b := definition(whole)
	ends := map[int]int{}
	for k := range len(whole) + 1 {
		if value.Right(whole[:k]) {
			ends[len(definition(whole[:k]))] = k
		}
	}
	for i := range len(b) + 1 {
		l, e := value.Decode(b[:i])
		if k, is := ends[i]; is && (!same(l, whole[:k]) || e != api.OK) {
			t.Errorf("Decode(%v) = %v, %d, want %v, 0", b[:i], l, e, whole[:k])
		} else if !is && (len(l) != 0 || e != api.ErrForm) {
			t.Errorf("Decode(%v) = %v, %d, want nothing, 2", b[:i], l, e)
		}
	}
}

// TestDecodeOfTwoBytes holds all bytes of that length against the definition.
func TestDecodeOfTwoBytes(t *testing.T) {
	for x := range 256 {
		if l, e := value.Decode([]byte{byte(x)}); len(l) != 0 || e != api.ErrForm {
			t.Errorf("Decode(%d) = %v, %d, want nothing, 2", x, l, e)
		}
		for y := range 256 {
			var want []api.Item
			switch id := x / 4; {
			case id == 0 || x > 127 || y > 127:
			case x%4 == 0 && y%2 == 0:
				want = []api.Item{number(id, y/2)}
			case x%4 == 0:
				want = []api.Item{number(id, -(y+1)/2)}
			case x%4 == 1 && y == 0:
				want = []api.Item{text(id)}
			case x%4 == 2 && y == 3:
				want = []api.Item{open(id), end()}
			}
			wantE := api.OK
			if want == nil {
				wantE = api.ErrForm
			}
			if l, e := value.Decode([]byte{byte(x), byte(y)}); !same(l, want) || e != wantE {
				t.Errorf("Decode(%d %d) = %v, %d, want %v, %d", x, y, l, e, want, wantE)
			}
		}
	}
}

// TestDecodeOfEachId holds all Ids of up to two bytes against the limits.
func TestDecodeOfEachId(t *testing.T) {
	for id := range 1 << 12 {
		for kind, rest := range map[int][]byte{api.ItemInt: {0}, api.ItemBytes: {0}, api.ItemOpen: {3}} {
			b := append(binary.AppendUvarint(nil, uint64(4*id+kind-1)), rest...)
			want := api.ErrForm
			if 1 <= id && id <= 1000 {
				want = api.OK
			}
			l, e := value.Decode(b)
			if e != want || (e == api.OK) != (len(l) > 0 && l[0].Id == id && l[0].Kind == kind) {
				t.Errorf("Decode(%v) = %v, %d, want %d", b, l, e, want)
			}
		}
	}
}

// P2.2

func TestFind(t *testing.T) {
	l := sample()
	for _, c := range []struct {
		id, from, to int
		is           bool
	}{
		{1, 0, 1, true},
		{2, 1, 5, true},
		{9, 5, 6, true},
		{7, 6, 11, true},
		{1000, 12, 13, true},
		{3, 0, 0, false}, // it is within another one alone
		{4, 0, 0, false},
		{0, 0, 0, false}, // an end has this one
		{-1, 0, 0, false},
		{1001, 0, 0, false},
		{math.MinInt, 0, 0, false},
		{math.MaxInt, 0, 0, false},
	} {
		if from, to, is := value.Find(l, c.id); from != c.from || to != c.to || is != c.is {
			t.Errorf("Find(%d) = %d, %d, %v, want %d, %d, %v", c.id, from, to, is, c.from, c.to, c.is)
		}
	}
	if from, to, is := value.Find(nil, 1); from != 0 || to != 0 || is {
		t.Errorf("Find in nothing = %d, %d, %v", from, to, is)
	}
	if from, to, is := value.Find(nested(8), 1); from != 0 || to != 16 || !is {
		t.Errorf("Find in the deepest = %d, %d, %v", from, to, is)
	}
	if from, to, is := value.Find(append(sample(), nested(1)...)[13:], 1); from != 3 || to != 5 || !is {
		t.Errorf("Find at the end = %d, %d, %v", from, to, is)
	}
}

func TestFindInNoRecord(t *testing.T) {
	for name, l := range wrongRecords() {
		for _, m := range [][]api.Item{l, append([]api.Item{number(1, 1)}, l...), append(l, number(1, 1))} {
			for _, id := range []int{0, 1, 2, 5, 1001} {
				if from, to, is := value.Find(m, id); from != 0 || to != 0 || is {
					t.Errorf("%s: Find(%v, %d) = %d, %d, %v, want 0, 0, false", name, m, id, from, to, is)
				}
			}
		}
	}
}

func TestDrop(t *testing.T) {
	l := sample()
	for _, c := range []struct {
		ids  []int
		want []api.Item
	}{
		{nil, nil},
		{[]int{}, nil},
		{[]int{3, 4, 0, -1, 1001, math.MinInt, math.MaxInt}, nil},
		{[]int{1}, []api.Item{l[0], l[11]}},
		{[]int{2}, append(slices.Clone(l[1:5]), l[13:15]...)},
		{[]int{9}, []api.Item{l[5], l[15]}},
		{[]int{7}, l[6:11]},
		{[]int{1000}, l[12:13]},
		{[]int{1000, 1}, []api.Item{l[0], l[11], l[12]}},
		{[]int{2, 9}, slices.Concat(l[1:6], l[13:16])},
		{[]int{9, 2, 9, 2, 0}, slices.Concat(l[1:6], l[13:16])},
		{[]int{1, 2, 7, 9, 1000}, l},
		{[]int{1000, 9, 7, 2, 1, 5, -5, 1001}, l},
	} {
		if m := value.Drop(l, c.ids); !same(m, c.want) {
			t.Errorf("Drop(%v) = %v, want %v", c.ids, m, c.want)
		}
	}
	if m := value.Drop(nil, []int{1}); len(m) != 0 {
		t.Errorf("Drop of nothing = %v", m)
	}
	if m := value.Drop(nested(8), []int{1}); !same(m, nested(8)) {
		t.Errorf("Drop of the deepest = %v", m)
	}
}

func TestDropOfNoRecord(t *testing.T) {
	all := make([]int, 1003)
	for i := range all {
		all[i] = i - 1
	}
	for name, l := range wrongRecords() {
		for _, m := range [][]api.Item{l, append([]api.Item{number(1, 1)}, l...), append(l, number(1, 1))} {
			if got := value.Drop(m, all); len(got) != 0 {
				t.Errorf("%s: Drop(%v) = %v, want nothing", name, m, got)
			}
		}
	}
}

// P2.3

func TestEncodeAndDecodeAreInverse(t *testing.T) {
	check := func(l []api.Item) {
		b, e := value.Encode(l)
		if e != api.OK {
			t.Fatalf("Encode(%v) = %d", l, e)
		}
		if got, e := value.Decode(b); !same(got, l) || e != api.OK {
			t.Errorf("Decode(Encode(%v)) = %v, %d", l, got, e)
		}
	}
	for _, l := range records() {
		check(l)
	}
	r := rand.New(rand.NewSource(1))
	for range 2000 {
		check(random(r, 3))
	}
}

func TestDecodeOfAnyBytes(t *testing.T) {
	r := rand.New(rand.NewSource(2))
	for range 20000 {
		b := definition(random(r, 2))
		for range r.Intn(3) {
			if len(b) > 0 {
				b[r.Intn(len(b))] = byte(r.Intn(256) >> r.Intn(8))
			}
		}
		checkBytes(t, b)
	}
}

// checkBytes holds what is decoded from any bytes against its encoding.
func checkBytes(t *testing.T, b []byte) {
	t.Helper()
	kept := bytes.Clone(b)
	l, e := value.Decode(b)
	if e != api.OK && (len(l) != 0 || e != api.ErrForm) {
		t.Errorf("Decode(%v) = %v, %d", b, l, e)
	}
	if e == api.OK && !value.Right(l) {
		t.Errorf("Decode(%v) = %v, which is no record", b, l)
	}
	if got, ge := value.Encode(l); e == api.OK && (!bytes.Equal(got, b) || ge != api.OK) {
		t.Errorf("Encode(Decode(%v)) = %v, %d", b, got, ge)
	}
	if !bytes.Equal(b, kept) {
		t.Errorf("%v was changed to %v", kept, b)
	}
}

// TestDropKeepsWhatFindFinds puts unknown fields into records: what is found of
// each requested Id stays the same, and what was not requested is not there.
func TestDropKeepsWhatFindFinds(t *testing.T) {
	r := rand.New(rand.NewSource(3))
	for range 3000 {
		l := random(r, 3)
		ids := r.Perm(8)[:r.Intn(8)]
		m := value.Drop(l, ids)
		if !value.Right(m) {
			t.Fatalf("Drop(%v, %v) = %v, which is no record", l, ids, m)
		}
		for id := range 10 {
			from, to, is := value.Find(l, id)
			mFrom, mTo, mIs := value.Find(m, id)
			if wanted := slices.Contains(ids, id); mIs != (wanted && is) {
				t.Errorf("Find(Drop(%v, %v), %d) = %v", l, ids, id, mIs)
			} else if mIs && !same(l[from:to], m[mFrom:mTo]) {
				t.Errorf("Find(Drop(%v, %v), %d) is %v", l, ids, id, m[mFrom:mTo])
			}
		}
		if again := value.Drop(m, ids); !same(again, m) {
			t.Errorf("Drop of %v once more = %v", m, again)
		}
	}
}

// R3: arguments are neither changed nor kept, and results are the caller's.

func TestNothingIsShared(t *testing.T) {
	l, ids := sample(), []int{2, 9, 1000, 1}
	kept := clone(l)
	b, _ := value.Encode(l)
	value.Find(l, 2)
	dropped := value.Drop(l, ids)
	if !same(l, kept) || !slices.Equal(ids, []int{2, 9, 1000, 1}) {
		t.Fatalf("%v was changed to %v", kept, l)
	}
	want := clone(dropped)
	decoded, _ := value.Decode(b)
	for _, m := range [][]api.Item{l, decoded} {
		for i := range m {
			for j := range m[i].B {
				m[i].B[j]++
			}
			// An append past one item's bytes must not reach the next one's.
			m[i].B = append(m[i].B, 77)
			m[i].N++
		}
	}
	if !same(dropped, want) {
		t.Errorf("what Drop returned has changed from %v to %v", want, dropped)
	}
	if !bytes.Equal(b, definition(kept)) {
		t.Errorf("what Encode returned has changed to %v", b)
	}
	decoded, _ = value.Decode(b)
	clear(b)
	if !same(decoded, kept) {
		t.Errorf("what Decode returned has changed from %v to %v", kept, decoded)
	}
}

// FuzzBytes searches for bytes that are decoded to what is not encoded as them.
func FuzzBytes(f *testing.F) {
	for _, b := range wrongBytes() {
		f.Add(b)
	}
	for _, l := range records() {
		f.Add(definition(l))
	}
	f.Fuzz(func(t *testing.T, b []byte) { checkBytes(t, b) })
}
