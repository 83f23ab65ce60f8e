package seal_test

import (
	"bytes"
	"crypto/hmac"
	"crypto/sha256"
	"encoding/binary"
	"math"
	"math/rand"
	"slices"
	"strconv"
	"testing"

	"selvage/api"
	"selvage/seal"
)

// frame is how many bytes precede the packet's bytes; the fingerprint's first
// one stands at printAt.
const (
	frame   = 27
	printAt = 11
)

func key(id int, secret string) api.Key { return api.Key{Id: id, Secret: []byte(secret)} }

// someBytes returns n bytes that differ from each other, and by the seed.
func someBytes(n, seed int) []byte {
	b := make([]byte, n)
	rand.New(rand.NewSource(int64(10000*seed + n))).Read(b)
	return b
}

// defined returns the envelope as the chapter's words tell it, signed by the
// library.
func defined(secret []byte, o api.Outer, b []byte) []byte {
	head := []byte{161, 247, byte(o.Key)}
	head = binary.BigEndian.AppendUint16(head, uint16(o.Local))
	head = binary.BigEndian.AppendUint16(head, uint16(o.Remote))
	head = binary.BigEndian.AppendUint32(head, uint32(o.Life))
	fingerprint := make([]byte, 16)
	if o.Key != 0 {
		h := hmac.New(sha256.New, secret)
		h.Write(head)
		h.Write(b)
		copy(fingerprint, h.Sum(nil))
	}
	return slices.Concat(head, fingerprint, b)
}

// wrapped returns the envelope, which must be one.
func wrapped(t *testing.T, k api.Key, o api.Outer, b []byte) []byte {
	t.Helper()
	w, e := seal.Wrap(k, o, b)
	if e != api.OK {
		t.Fatalf("Wrap(%v, %v, %d bytes) = %v", k, o, len(b), e)
	}
	return w
}

// refused checks that Wrap returns that error, and nothing with it.
func refused(t *testing.T, name string, k api.Key, o api.Outer, b []byte, want api.Errno) {
	t.Helper()
	if w, e := seal.Wrap(k, o, b); e != want || len(w) != 0 {
		t.Errorf("%s: Wrap = %v, %v, want %v", name, w, e, want)
	}
}

// closed checks that Open returns that error, and nothing with it.
func closed(t *testing.T, name string, keys []api.Key, b []byte, want api.Errno) {
	t.Helper()
	if o, p, e := seal.Open(keys, b); e != want || o != (api.Outer{}) || len(p) != 0 {
		t.Errorf("%s: Open = %v, %v, %v, want %v", name, o, p, e, want)
	}
}

// opened checks that Open returns that Outer and those bytes.
func opened(t *testing.T, name string, keys []api.Key, b []byte, wantOuter api.Outer, want []byte) {
	t.Helper()
	if o, p, e := seal.Open(keys, b); e != api.OK || o != wantOuter || !bytes.Equal(p, want) {
		t.Errorf("%s: Open = %v, %v, %v, want %v, %v", name, o, p, e, wantOuter, want)
	}
}

// outers are valid Outers of that Key, the least and the greatest ones among
// them, and those by which the order of the bytes is seen.
func outers(id int) []api.Outer {
	return []api.Outer{
		{Key: id},
		{Key: id, Local: 65535, Remote: 65535, Life: api.MaxLife},
		{Key: id, Local: 1},
		{Key: id, Local: 256},
		{Key: id, Remote: 1},
		{Key: id, Remote: 256},
		{Key: id, Life: 1},
		{Key: id, Life: 256},
		{Key: id, Life: 65536},
		{Key: id, Local: 258, Remote: 772, Life: 66051},
	}
}

// P5.1: Wrap

func TestWrapOfKeyZero(t *testing.T) {
	w := wrapped(t, api.Key{}, api.Outer{Local: 258, Remote: 772, Life: 66051}, []byte{7, 8})
	want := []byte{161, 247, 0, 1, 2, 3, 4, 0, 1, 2, 3, 0, 0, 0, 0, 0, 0, 0, 0, 0, 0, 0, 0, 0, 0, 0, 0, 7, 8}
	if !bytes.Equal(w, want) {
		t.Errorf("Wrap = %v, want %v", w, want)
	}
	if w := wrapped(t, api.Key{}, api.Outer{}, nil); len(w) != frame {
		t.Errorf("%d bytes precede the packet's, want %d", len(w), frame)
	}
}

func TestWrapByDefinition(t *testing.T) {
	for _, id := range []int{0, 1, 2, 127, 128, 254, 255} {
		for _, size := range []int{1, 2, 63, 64} {
			k := api.Key{Id: id, Secret: someBytes(size, id)}
			for _, o := range outers(id) {
				for _, n := range []int{0, 1, 52, 53, 54, 300, 4095, 4096} {
					b := someBytes(n, size)
					if got, want := wrapped(t, k, o, b), defined(k.Secret, o, b); !bytes.Equal(got, want) {
						t.Fatalf("Wrap by %v, %v of %d bytes = %v, want %v", k, o, n, got, want)
					}
				}
			}
		}
	}
}

// The packet, the head and the key all are signed.
func TestFingerprintsDiffer(t *testing.T) {
	seen := map[string]string{}
	add := func(name string, k api.Key, o api.Outer, b []byte) {
		f := string(wrapped(t, k, o, b)[printAt:frame])
		if other, is := seen[f]; is {
			t.Errorf("%s and %s have the same fingerprint", name, other)
		}
		seen[f] = name
	}
	for i, o := range outers(3) {
		add("the Outer "+strconv.Itoa(i), key(3, "s"), o, []byte{1})
	}
	add("another packet", key(3, "s"), api.Outer{Key: 3}, []byte{2})
	add("no packet", key(3, "s"), api.Outer{Key: 3}, nil)
	add("another secret", key(3, "t"), api.Outer{Key: 3}, []byte{1})
	add("another key", key(4, "s"), api.Outer{Key: 4}, []byte{1})
	add("no key", key(4, "s"), api.Outer{}, []byte{1})
}

// With the Key 0 it is the same whichever key comes along, a wrong one, too.
func TestWrapOfKeyZeroTakesAnyKey(t *testing.T) {
	o := api.Outer{Local: 5, Remote: 6, Life: 7}
	want := wrapped(t, api.Key{}, o, []byte{1})
	for _, k := range []api.Key{key(0, "s"), key(3, "s"), key(3, ""), key(-1, "s"), key(256, "s"),
		{Id: 3, Secret: make([]byte, 65)}} {
		if got := wrapped(t, k, o, []byte{1}); !bytes.Equal(got, want) {
			t.Errorf("Wrap by %v = %v, want %v", k, got, want)
		}
	}
}

func TestWrapOfWrongArguments(t *testing.T) {
	k := key(3, "s")
	for _, o := range []api.Outer{
		{Key: -1}, {Key: 256}, {Key: math.MaxInt}, {Key: math.MinInt},
		{Key: 3, Local: -1}, {Key: 3, Local: 65536}, {Key: 3, Local: math.MinInt},
		{Key: 3, Remote: -1}, {Key: 3, Remote: 65536}, {Key: 3, Remote: math.MaxInt},
		{Key: 3, Life: -1}, {Key: 3, Life: api.MaxLife + 1}, {Key: 3, Life: 1 << 32}, {Key: 3, Life: math.MinInt},
		{Local: -1}, {Remote: 65536}, {Life: api.MaxLife + 1},
	} {
		k := k
		if o.Key != 0 {
			k.Id = o.Key
		}
		refused(t, "a wrong Outer", k, o, []byte{1}, api.ErrArg)
	}
	refused(t, "another Id", k, api.Outer{Key: 4}, nil, api.ErrArg)
	refused(t, "the Id 0", key(0, "s"), api.Outer{Key: 4}, nil, api.ErrArg)
	refused(t, "no Secret", key(3, ""), api.Outer{Key: 3}, nil, api.ErrArg)
	refused(t, "65 bytes", api.Key{Id: 3, Secret: make([]byte, 65)}, api.Outer{Key: 3}, nil, api.ErrArg)
}

func TestWrapOfTooMuch(t *testing.T) {
	full := make([]byte, api.MaxBytes+1)
	refused(t, "unsigned", api.Key{}, api.Outer{}, full, api.ErrFull)
	refused(t, "signed", key(3, "s"), api.Outer{Key: 3}, full, api.ErrFull)
	refused(t, "a wrong Outer is told first", key(3, "s"), api.Outer{Key: 3, Life: -1}, full, api.ErrArg)
	refused(t, "a wrong key is told first", key(3, "s"), api.Outer{Key: 4}, full, api.ErrArg)
}

// P5.1: Open

func TestOpenOfDefined(t *testing.T) {
	for _, id := range []int{0, 1, 128, 255} {
		k := api.Key{Id: id, Secret: someBytes(64, id)}
		for _, o := range outers(id) {
			for _, n := range []int{0, 1, 300, 4096} {
				b := someBytes(n, id)
				opened(t, "defined", []api.Key{k}, defined(k.Secret, o, b), o, b)
			}
		}
	}
}

func TestOpenOfWrongForm(t *testing.T) {
	keys := []api.Key{key(3, "s")}
	for _, id := range []int{0, 3} {
		w := wrapped(t, keys[0], api.Outer{Key: id, Life: 9}, nil)
		for n := range frame {
			closed(t, "cut", keys, w[:n], api.ErrForm)
		}
		for at := range 2 {
			for bit := range 8 {
				b := bytes.Clone(w)
				b[at] ^= 1 << bit
				closed(t, "begun otherwise", keys, b, api.ErrForm)
			}
		}
		closed(t, "turned", keys, append([]byte{247, 161}, w[2:]...), api.ErrForm)
		long := defined(keys[0].Secret, api.Outer{Key: id}, make([]byte, 4097))
		closed(t, "too long", keys, long, api.ErrForm)
		closed(t, "far too long", keys, append(long, make([]byte, 100000)...), api.ErrForm)
		for _, life := range []int{api.MaxLife + 1, 1 << 24, 1<<31 - 1, 1 << 31, 1<<32 - 1} {
			closed(t, "Life", keys, defined(keys[0].Secret, api.Outer{Key: id, Life: life}, nil), api.ErrForm)
		}
	}
	closed(t, "nothing", keys, nil, api.ErrForm)
	closed(t, "zeros", keys, make([]byte, 100), api.ErrForm)
}

func TestOpenWithoutKey(t *testing.T) {
	w := wrapped(t, key(3, "s"), api.Outer{Key: 3}, []byte{1})
	closed(t, "no keys", nil, w, api.ErrNone)
	closed(t, "others", []api.Key{key(2, "s"), key(4, "s"), key(0, "s"), key(-3, "s"), key(259, "s")}, w, api.ErrNone)
	closed(t, "no Secret", []api.Key{key(3, "")}, w, api.ErrNone)
	closed(t, "65 bytes", []api.Key{{Id: 3, Secret: make([]byte, 65)}}, w, api.ErrNone)
	w = defined(make([]byte, 65), api.Outer{Key: 3}, nil)
	closed(t, "signed by 65 bytes", []api.Key{{Id: 3, Secret: make([]byte, 65)}}, w, api.ErrNone)
}

// The first valid key of that Id is used, and no other one.
func TestOpenByFirstKey(t *testing.T) {
	k := key(3, "s")
	o := api.Outer{Key: 3}
	w := wrapped(t, k, o, []byte{1})
	opened(t, "the last one", []api.Key{key(1, "s"), key(2, "s"), k}, w, o, []byte{1})
	opened(t, "ahead of another", []api.Key{k, key(3, "x")}, w, o, []byte{1})
	opened(t, "behind wrong ones", []api.Key{key(3, ""), {Id: 3, Secret: make([]byte, 65)}, k}, w, o, []byte{1})
	closed(t, "behind another", []api.Key{key(3, "x"), k}, w, api.ErrKey)
	closed(t, "of another Id", []api.Key{key(3, "x"), key(4, "s")}, w, api.ErrKey)
}

func TestOpenOfKeyZero(t *testing.T) {
	o := api.Outer{Local: 1, Remote: 2, Life: 3}
	w := wrapped(t, api.Key{}, o, []byte{1})
	opened(t, "no keys", nil, w, o, []byte{1})
	opened(t, "a key of the Id 0", []api.Key{key(0, "s"), key(3, "s")}, w, o, []byte{1})
	for at := printAt; at < frame; at++ {
		b := bytes.Clone(w)
		b[at] = 1
		closed(t, "a fingerprint", nil, b, api.ErrKey)
	}
	signed := wrapped(t, key(3, "s"), api.Outer{Key: 3}, []byte{1})
	signed[2] = 0
	closed(t, "the fingerprint of a key", []api.Key{key(3, "s"), key(0, "s")}, signed, api.ErrKey)
}

// A wrong form is told ahead of a key that is not there, and that ahead of a
// wrong fingerprint.
func TestOrderOfErrors(t *testing.T) {
	b := defined([]byte("s"), api.Outer{Key: 3, Life: api.MaxLife + 1}, nil)
	b[printAt]++
	closed(t, "all", nil, b, api.ErrForm)
	closed(t, "form and fingerprint", []api.Key{key(3, "s")}, b, api.ErrForm)
	b = defined([]byte("s"), api.Outer{Key: 3}, nil)
	b[printAt]++
	closed(t, "key and fingerprint", nil, b, api.ErrNone)
	closed(t, "fingerprint", []api.Key{key(3, "s")}, b, api.ErrKey)
}

// P5.2

func TestNext(t *testing.T) {
	for n := 1; n < 65535; n++ {
		if got := seal.Next(n); got != n+1 {
			t.Fatalf("Next(%d) = %d", n, got)
		}
	}
	for _, n := range []int{65535, 0, -1, 65536, 65537, 131070, math.MaxInt, math.MinInt} {
		if got := seal.Next(n); got != 1 {
			t.Errorf("Next(%d) = %d, want 1", n, got)
		}
	}
}

// own results from told by steps as Next itself makes them, and not by one
// less.
func TestFreshByNext(t *testing.T) {
	for _, told := range []int{1, 2, 1000, 32768, 64534, 64535, 64536, 65534, 65535} {
		own := told
		for steps := range 1010 {
			if got, want := seal.Fresh(told, own, steps), steps <= 1000; got != want {
				t.Fatalf("Fresh(%d, %d, %d) = %v", told, own, steps, got)
			}
			if steps > 0 && seal.Fresh(told, own, steps-1) {
				t.Fatalf("Fresh(%d, %d, %d)", told, own, steps-1)
			}
			if got, want := seal.Fresh(told, own, math.MaxInt), steps <= 1000; got != want {
				t.Fatalf("Fresh(%d, %d, greatest) = %v", told, own, got)
			}
			own = seal.Next(own)
		}
	}
}

func TestFreshOfSlack(t *testing.T) {
	for _, x := range []struct {
		told, own, slack int
		want             bool
	}{
		{5, 5, 0, true}, {5, 5, -1, true}, {5, 5, math.MinInt, true},
		{5, 6, 0, false}, {5, 6, -1, false}, {5, 6, math.MinInt, false}, {5, 6, 1, true},
		{6, 5, 1, false}, {6, 5, 1000, false}, {6, 5, math.MaxInt, false}, {1, 65535, 1000, false},
		{65535, 1, 0, false}, {65535, 1, 1, true}, {65534, 1, 1, false}, {65534, 1, 2, true},
		{1, 1001, 1000, true}, {1, 1002, 1001, false}, {1, 1002, 65535, false}, {1, 1002, math.MaxInt, false},
		{65000, 465, 1000, true}, {65000, 466, 1001, false},
	} {
		if got := seal.Fresh(x.told, x.own, x.slack); got != x.want {
			t.Errorf("Fresh(%d, %d, %d) = %v", x.told, x.own, x.slack, got)
		}
	}
}

func TestFreshOfNoNonces(t *testing.T) {
	wrong := []int{0, -1, 65536, 65537, math.MaxInt, math.MinInt}
	for _, n := range wrong {
		for _, m := range append([]int{1, 65535}, wrong...) {
			if seal.Fresh(n, m, 1000) || seal.Fresh(m, n, 1000) {
				t.Errorf("Fresh of %d and %d", n, m)
			}
		}
	}
}

// P5.3

func TestOpenInvertsWrap(t *testing.T) {
	r := rand.New(rand.NewSource(5))
	for range 2000 {
		k := api.Key{Id: 1 + r.Intn(255), Secret: someBytes(1+r.Intn(64), r.Intn(100))}
		o := api.Outer{Local: r.Intn(65536), Remote: r.Intn(65536), Life: r.Intn(api.MaxLife + 1)}
		if r.Intn(4) > 0 {
			o.Key = k.Id
		}
		b := someBytes(r.Intn(200), r.Intn(100))
		w := wrapped(t, k, o, b)
		opened(t, "wrapped", []api.Key{k}, w, o, b)
		q, p, _ := seal.Open([]api.Key{k}, w)
		if again := wrapped(t, k, q, p); !bytes.Equal(again, w) {
			t.Fatalf("Wrap of what was opened = %v, want %v", again, w)
		}
	}
}

func TestOpenOfChangedBytes(t *testing.T) {
	k := key(3, "secret")
	w := wrapped(t, k, api.Outer{Key: 3, Local: 4, Remote: 5, Life: 6}, []byte{1, 2, 3})
	var keys []api.Key
	for id := 1; id <= 255; id++ {
		keys = append(keys, key(id, "secret"))
	}
	for at := range w {
		for mask := 1; mask < 256; mask++ {
			b := bytes.Clone(w)
			b[at] ^= byte(mask)
			if _, _, e := seal.Open(keys, b); e == api.OK {
				t.Errorf("byte %d, changed by %d: it is opened", at, mask)
			}
			if at >= printAt && at < frame {
				closed(t, "a changed fingerprint", keys, b, api.ErrKey)
			}
		}
	}
	closed(t, "a byte more", keys, append(bytes.Clone(w), 0), api.ErrKey)
	closed(t, "a byte less", keys, w[:len(w)-1], api.ErrKey)
	closed(t, "without the key", slices.DeleteFunc(keys, func(x api.Key) bool { return x.Id == 3 }), w, api.ErrNone)
	closed(t, "by another Secret", []api.Key{key(3, "secreT")}, w, api.ErrKey)
}

// R3: what is handed in stays as it is, also behind its end, where its memory
// goes on, and what is returned shares nothing with it.
func TestArgumentsStay(t *testing.T) {
	for _, id := range []int{0, 3} {
		memory := someBytes(1000, 1)
		k := api.Key{Id: 3, Secret: memory[10:20]}
		o := api.Outer{Key: id, Local: 1}
		was := bytes.Clone(memory)
		w := wrapped(t, k, o, memory[100:150])
		want := bytes.Clone(w)
		clear(memory[100:150])
		if !bytes.Equal(w, want) {
			t.Errorf("Key %d: what Wrap returns is the packet's memory", id)
		}
		copy(memory[100:150], was[100:150])
		if !bytes.Equal(memory, was) {
			t.Errorf("Key %d: Wrap changes what it is given", id)
		}

		copy(memory[300:], w)
		was = bytes.Clone(memory)
		keys := []api.Key{key(1, "a"), k, key(3, "b")}
		_, p, e := seal.Open(keys, memory[300:300+len(w)])
		if e != api.OK || !bytes.Equal(memory, was) {
			t.Errorf("Key %d: Open = %v, or changes what it is given", id, e)
		}
		clear(memory)
		if !bytes.Equal(p, was[100:150]) {
			t.Errorf("Key %d: what Open returns is the envelope's memory", id)
		}
	}
}

// FuzzOpen searches for bytes for which Open panics, or from which it returns
// what Wrap does not make them of again.
func FuzzOpen(f *testing.F) {
	f.Add([]byte("s"), defined([]byte("s"), api.Outer{Key: 3, Life: 7}, []byte{1}))
	f.Add([]byte(nil), defined(nil, api.Outer{Local: 3}, nil))
	f.Fuzz(func(t *testing.T, secret, b []byte) {
		k := api.Key{Id: 3, Secret: secret}
		o, p, e := seal.Open([]api.Key{k}, b)
		if e != api.OK {
			if o != (api.Outer{}) || len(p) != 0 {
				t.Errorf("Open = %v, %v, %v", o, p, e)
			}
			return
		}
		if w, e := seal.Wrap(k, o, p); e != api.OK || !bytes.Equal(w, b) {
			t.Errorf("Wrap of what was opened = %v, %v, want %v", w, e, b)
		}
	})
}

// FuzzWrap holds Wrap and Open against the definition.
func FuzzWrap(f *testing.F) {
	f.Add([]byte("s"), 3, 1, 2, 3, []byte{1})
	f.Add([]byte(nil), 0, 0, 0, 0, []byte(nil))
	f.Fuzz(func(t *testing.T, secret []byte, id, local, remote, life int, b []byte) {
		k := api.Key{Id: id, Secret: secret}
		o := api.Outer{Key: id, Local: local, Remote: remote, Life: life}
		w, e := seal.Wrap(k, o, b)
		if e != api.OK {
			if len(w) != 0 {
				t.Errorf("Wrap = %v, %v", w, e)
			}
			return
		}
		if !bytes.Equal(w, defined(secret, o, b)) {
			t.Errorf("Wrap by %v, %v of %v = %v", k, o, b, w)
		}
		opened(t, "wrapped", []api.Key{k}, w, o, b)
	})
}
