package varint_test

import (
	"bytes"
	"encoding/binary"
	"math"
	"slices"
	"testing"

	"selvage/api"
	"selvage/varint"
)

// unsigned returns numbers around all powers of two, so around all lengths.
func unsigned() []uint64 {
	l := []uint64{0, 300, 1000, 1 << 40, math.MaxUint64}
	for i := range 64 {
		p := uint64(1) << i
		l = append(l, p-1, p, p+1)
	}
	return l
}

// signed returns numbers of both signs around all powers of two.
func signed() []int {
	l := []int{300, -300, math.MinInt, math.MinInt + 1, math.MaxInt - 1, math.MaxInt}
	for i := range 63 {
		p := 1 << i
		l = append(l, p-1, p, p+1, 1-p, -p, -p-1)
	}
	return l
}

// wrongNumbers returns bytes that no number's encoding is a prefix of.
func wrongNumbers() map[string][]byte {
	ff := bytes.Repeat([]byte{255}, 12)
	zero := bytes.Repeat([]byte{128}, 12)
	return map[string][]byte{
		"no bytes, nil":                    nil,
		"no bytes":                         {},
		"cut off after 1 byte":             {128},
		"cut off after 2 bytes":            {172, 130},
		"cut off after 9 bytes":            slices.Clone(ff[:9]),
		"cut off after 10 bytes":           slices.Clone(ff[:10]),
		"0 of 2 bytes":                     {128, 0},
		"0 of 2 bytes, and more":           {128, 0, 1},
		"127 of 2 bytes":                   {255, 0},
		"300 of 3 bytes":                   {172, 130, 0},
		"0 at the tenth place":             append(slices.Clone(ff[:9]), 0),
		"2^64":                             append(slices.Clone(zero[:9]), 2),
		"2^64 and the greatest number":     append(slices.Clone(ff[:9]), 2),
		"3 at the tenth place":             append(slices.Clone(ff[:9]), 3),
		"127 at the tenth place":           append(slices.Clone(ff[:9]), 127),
		"eleven bytes":                     append(slices.Clone(zero[:10]), 1),
		"eleven bytes, 1 with a mark":      append(slices.Clone(zero[:9]), 129, 1),
		"eleven bytes, the last one a 0":   append(slices.Clone(zero[:9]), 129, 0),
		"twelve bytes that do not end":     slices.Clone(ff),
		"twelve bytes that do not end, 0s": slices.Clone(zero),
	}
}

// P1.1

func TestPutExamples(t *testing.T) {
	greatest := append(bytes.Repeat([]byte{255}, 9), 1)
	for _, c := range []struct {
		n    uint64
		want []byte
	}{
		{0, []byte{0}},
		{1, []byte{1}},
		{127, []byte{127}},
		{128, []byte{128, 1}},
		{300, []byte{172, 2}},
		{16383, []byte{255, 127}},
		{16384, []byte{128, 128, 1}},
		{1 << 63, append(bytes.Repeat([]byte{128}, 9), 1)},
		{math.MaxUint64, greatest},
	} {
		if b := varint.Put(c.n); !bytes.Equal(b, c.want) {
			t.Errorf("Put(%d) = %v, want %v", c.n, b, c.want)
		}
	}
}

func TestPutIsLEB128(t *testing.T) {
	for _, n := range unsigned() {
		if b, want := varint.Put(n), binary.AppendUvarint(nil, n); !bytes.Equal(b, want) {
			t.Errorf("Put(%d) = %v, want %v", n, b, want)
		}
	}
}

func TestTakeExamples(t *testing.T) {
	for _, c := range []struct {
		b    []byte
		n    uint64
		size int
	}{
		{[]byte{0}, 0, 1},
		{[]byte{0, 0}, 0, 1},
		{[]byte{0, 128}, 0, 1},
		{[]byte{5, 128, 0}, 5, 1},
		{[]byte{172, 2}, 300, 2},
		{[]byte{172, 2, 9}, 300, 2},
		{[]byte{128, 128, 1}, 16384, 3},
		{append(bytes.Repeat([]byte{255}, 9), 1), math.MaxUint64, 10},
		{append(bytes.Repeat([]byte{128}, 9), 1), 1 << 63, 10},
		{append(bytes.Repeat([]byte{255}, 9), 1, 255), math.MaxUint64, 10},
	} {
		if n, size, e := varint.Take(c.b); n != c.n || size != c.size || e != api.OK {
			t.Errorf("Take(%v) = %d, %d, %d, want %d, %d, 0", c.b, n, size, e, c.n, c.size)
		}
	}
}

func TestTakeRefuses(t *testing.T) {
	for name, b := range wrongNumbers() {
		if n, size, e := varint.Take(b); n != 0 || size != 0 || e != api.ErrForm {
			t.Errorf("%s: Take(%v) = %d, %d, %d, want 0, 0, 2", name, b, n, size, e)
		}
	}
}

func TestTakeRefusesWhatIsCutOff(t *testing.T) {
	for _, n := range unsigned() {
		b := varint.Put(n)
		for k := range len(b) {
			if n, size, e := varint.Take(b[:k]); n != 0 || size != 0 || e != api.ErrForm {
				t.Errorf("Take(%v) = %d, %d, %d, want 0, 0, 2", b[:k], n, size, e)
			}
		}
	}
}

// TestTakeOfTwoBytes holds all bytes of that length against the definition.
func TestTakeOfTwoBytes(t *testing.T) {
	for x := range 256 {
		for y := range 256 {
			n, size, want := uint64(0), 0, api.ErrForm
			switch {
			case x < 128:
				n, size, want = uint64(x), 1, api.OK
			case 1 <= y && y < 128:
				n, size, want = uint64(x-128+128*y), 2, api.OK
			}
			gotN, gotSize, e := varint.Take([]byte{byte(x), byte(y)})
			if gotN != n || gotSize != size || e != want {
				t.Errorf("Take(%d %d) = %d, %d, %d, want %d, %d, %d", x, y, gotN, gotSize, e, n, size, want)
			}
		}
	}
}

// P1.2

func TestZigExamples(t *testing.T) {
	for _, c := range []struct {
		n int
		u uint64
	}{
		{0, 0}, {-1, 1}, {1, 2}, {-2, 3}, {2, 4}, {-64, 127}, {64, 128}, {150, 300},
		{math.MaxInt, math.MaxUint64 - 1}, {math.MinInt, math.MaxUint64},
		{math.MaxInt - 1, math.MaxUint64 - 3}, {math.MinInt + 1, math.MaxUint64 - 2},
	} {
		if u := varint.Zig(c.n); u != c.u {
			t.Errorf("Zig(%d) = %d, want %d", c.n, u, c.u)
		}
		if n := varint.Zag(c.u); n != c.n {
			t.Errorf("Zag(%d) = %d, want %d", c.u, n, c.n)
		}
	}
}

func TestPackExamples(t *testing.T) {
	greatest := append([]byte{254}, append(bytes.Repeat([]byte{255}, 8), 1)...)
	least := append(bytes.Repeat([]byte{255}, 9), 1)
	for _, c := range []struct {
		l []int
		b []byte
	}{
		{nil, nil},
		{[]int{0}, []byte{0}},
		{[]int{0, 0}, []byte{0, 0}},
		{[]int{5, -300, 0}, []byte{10, 215, 4, 0}},
		{[]int{150, -1, 1}, []byte{172, 2, 1, 2}},
		{[]int{math.MaxInt}, greatest},
		{[]int{math.MinInt}, least},
		{[]int{math.MinInt, 1, math.MaxInt}, slices.Concat(least, []byte{2}, greatest)},
	} {
		if b := varint.Pack(c.l); !bytes.Equal(b, c.b) {
			t.Errorf("Pack(%v) = %v, want %v", c.l, b, c.b)
		}
		if l, e := varint.Unpack(c.b); !slices.Equal(l, c.l) || e != api.OK {
			t.Errorf("Unpack(%v) = %v, %d, want %v, 0", c.b, l, e, c.l)
		}
	}
	if l, e := varint.Unpack([]byte{}); len(l) != 0 || e != api.OK {
		t.Errorf("Unpack of no bytes = %v, %d, want nothing, 0", l, e)
	}
}

func TestPackIsPutOfZig(t *testing.T) {
	l := signed()
	var want []byte
	for _, n := range l {
		want = append(want, varint.Put(varint.Zig(n))...)
	}
	if b := varint.Pack(l); !bytes.Equal(b, want) {
		t.Errorf("Pack = %v, want %v", b, want)
	}
}

func TestUnpackRefuses(t *testing.T) {
	whole := varint.Pack([]int{5, -300, 0, math.MinInt})
	for name, bad := range wrongNumbers() {
		if len(bad) == 0 {
			continue
		}
		for _, b := range [][]byte{bad, slices.Concat([]byte{2}, bad), slices.Concat(whole, bad)} {
			if l, e := varint.Unpack(b); len(l) != 0 || e != api.ErrForm {
				t.Errorf("%s: Unpack(%v) = %v, %d, want nothing, 2", name, b, l, e)
			}
		}
	}
	// In the midst of a list, too.
	if l, e := varint.Unpack([]byte{2, 128, 0, 2}); len(l) != 0 || e != api.ErrForm {
		t.Errorf("Unpack = %v, %d, want nothing, 2", l, e)
	}
}

// P1.3

func TestPutAndTakeAreInverse(t *testing.T) {
	for _, n := range unsigned() {
		b := varint.Put(n)
		for _, rest := range [][]byte{nil, {0}, {128}, {255, 1}, {7, 7, 7}} {
			got, size, e := varint.Take(slices.Concat(b, rest))
			if got != n || size != len(b) || e != api.OK {
				t.Errorf("Take(Put(%d), %v) = %d, %d, %d", n, rest, got, size, e)
			}
		}
	}
}

func TestZigAndZagAreInverse(t *testing.T) {
	for _, n := range signed() {
		if got := varint.Zag(varint.Zig(n)); got != n {
			t.Errorf("Zag(Zig(%d)) = %d", n, got)
		}
	}
	for _, u := range unsigned() {
		if got := varint.Zig(varint.Zag(u)); got != u {
			t.Errorf("Zig(Zag(%d)) = %d", u, got)
		}
	}
}

func TestPackAndUnpackAreInverse(t *testing.T) {
	whole := signed()
	for k := range len(whole) + 1 {
		if l, e := varint.Unpack(varint.Pack(whole[:k])); !slices.Equal(l, whole[:k]) || e != api.OK {
			t.Errorf("Unpack(Pack(%v)) = %v, %d", whole[:k], l, e)
		}
	}
}

func TestNearerIsNotLonger(t *testing.T) {
	l := unsigned()
	slices.Sort(l)
	for i := 1; i < len(l); i++ {
		if a, b := varint.Put(l[i-1]), varint.Put(l[i]); len(a) > len(b) {
			t.Errorf("%d has %d bytes, but %d has %d", l[i-1], len(a), l[i], len(b))
		}
	}
	m := signed()
	distance := func(n int) uint64 {
		if n < 0 {
			return -uint64(n)
		}
		return uint64(n)
	}
	for _, a := range m {
		for _, b := range m {
			x, y := varint.Pack([]int{a}), varint.Pack([]int{b})
			if distance(a) < distance(b) && len(x) > len(y) {
				t.Errorf("%d has %d bytes, but %d has %d", a, len(x), b, len(y))
			}
		}
	}
}

// FuzzBytes holds what is decoded from any bytes against its encoding.
func FuzzBytes(f *testing.F) {
	for _, b := range wrongNumbers() {
		f.Add(b)
	}
	f.Add(varint.Pack(signed()))
	f.Fuzz(func(t *testing.T, b []byte) {
		kept := slices.Clone(b)
		n, size, e := varint.Take(b)
		switch {
		case e == api.OK && !bytes.Equal(varint.Put(n), b[:size]):
			t.Errorf("Take(%v) = %d, %d", b, n, size)
		case e != api.OK && (n != 0 || size != 0 || e != api.ErrForm):
			t.Errorf("Take(%v) = %d, %d, %d", b, n, size, e)
		}
		l, e := varint.Unpack(b)
		switch {
		case e == api.OK && !bytes.Equal(varint.Pack(l), b):
			t.Errorf("Unpack(%v) = %v", b, l)
		case e != api.OK && (len(l) != 0 || e != api.ErrForm):
			t.Errorf("Unpack(%v) = %v, %d", b, l, e)
		}
		if !bytes.Equal(b, kept) {
			t.Errorf("%v was changed to %v", kept, b)
		}
	})
}

// FuzzNumbers holds what any numbers are encoded as against what is decoded.
func FuzzNumbers(f *testing.F) {
	for _, n := range signed() {
		f.Add(n, -n)
	}
	f.Fuzz(func(t *testing.T, n, m int) {
		l := []int{n, m}
		got, e := varint.Unpack(varint.Pack(l))
		if !slices.Equal(got, []int{n, m}) || !slices.Equal(l, got) || e != api.OK {
			t.Errorf("Unpack(Pack(%d, %d)) = %v, %d", n, m, got, e)
		}
		b := varint.Put(uint64(n))
		if u, size, e := varint.Take(append(b, 9)); u != uint64(n) || size != len(b) || e != api.OK {
			t.Errorf("Take(Put(%d)) = %d, %d, %d", uint64(n), u, size, e)
		}
	})
}
