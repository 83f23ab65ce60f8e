package sha_test

import (
	"bytes"
	"crypto/hmac"
	"crypto/sha256"
	"encoding/hex"
	"math/big"
	"math/rand"
	"slices"
	"strings"
	"testing"

	"selvage/sha"
)

// hexOf returns a hash as its published form has it.
func hexOf(sum [32]byte) string {
	return hex.EncodeToString(sum[:])
}

// wantMac returns the HMAC by the library.
func wantMac(key, b []byte) [32]byte {
	h := hmac.New(sha256.New, key)
	h.Write(b)
	return [32]byte(h.Sum(nil))
}

// someBytes returns n bytes that differ from each other, and by the seed.
func someBytes(n, seed int) []byte {
	b := make([]byte, n)
	rand.New(rand.NewSource(int64(1000*seed + n))).Read(b)
	return b
}

// P4.1

func TestSumBegins(t *testing.T) {
	sum := sha.Sum([]byte("abc"))
	if !bytes.HasPrefix(sum[:], []byte{186, 120, 22, 191}) {
		t.Errorf("Sum of abc = %v", sum)
	}
}

// The lengths around 56 and 64 are those at which the padded bytes take another
// block.
func TestSumOfAllLengths(t *testing.T) {
	for n := range 4*64 + 2 {
		for seed := range 3 {
			b := someBytes(n, seed)
			if got := sha.Sum(b); got != sha256.Sum256(b) {
				t.Errorf("Sum of %d bytes = %x, want %x", n, got, sha256.Sum256(b))
			}
		}
		for _, x := range []byte{0, 128, 255} {
			b := bytes.Repeat([]byte{x}, n)
			if got := sha.Sum(b); got != sha256.Sum256(b) {
				t.Errorf("Sum of %d times %d = %x, want %x", n, x, got, sha256.Sum256(b))
			}
		}
	}
}

// A hash's bytes tell apart what differs in a single bit, wherever that is.
func TestSumOfSingleBits(t *testing.T) {
	seen := map[[32]byte]int{}
	for bit := range 8 * 130 {
		b := make([]byte, 130)
		b[bit/8] = 1 << (bit % 8)
		got := sha.Sum(b)
		if got != sha256.Sum256(b) {
			t.Errorf("Sum of bit %d = %x, want %x", bit, got, sha256.Sum256(b))
		}
		if other, is := seen[got]; is {
			t.Errorf("bits %d and %d have the same Sum", other, bit)
		}
		seen[got] = bit
	}
}

// This is the least length 8 times which has more than 32 bits.
func TestSumOfLongest(t *testing.T) {
	if testing.Short() {
		t.Skip("hashes half a gigabyte")
	}
	b := make([]byte, 1<<29)
	if got := sha.Sum(b); got != sha256.Sum256(b) {
		t.Errorf("Sum of 2^29 zero bytes = %x, want %x", got, sha256.Sum256(b))
	}
}

func TestSumOfNothing(t *testing.T) {
	if sha.Sum(nil) != sha.Sum([]byte{}) || sha.Sum(nil) != sha256.Sum256(nil) {
		t.Errorf("Sum of nil = %x, of no bytes %x", sha.Sum(nil), sha.Sum([]byte{}))
	}
}

// P4.1 by its definition: the words of H and K are computed here, not written.

// rootBits returns the first 32 bits of the fractional parts of the roots of
// that degree (2 or 3) of the first n primes.
func rootBits(n, degree int) []uint32 {
	var l []uint32
	for p := int64(2); len(l) < n; p++ {
		if !big.NewInt(p).ProbablyPrime(0) {
			continue
		}
		// The root of p * 2^(32*degree), rounded down, ends with those bits.
		scaled := new(big.Int).Lsh(big.NewInt(p), uint(32*degree))
		l = append(l, uint32(root(scaled, degree).Uint64()))
	}
	return l
}

// root returns the greatest integer whose power of that degree is at most x.
func root(x *big.Int, degree int) *big.Int {
	r := new(big.Int)
	for bit := x.BitLen(); bit >= 0; bit-- {
		more := new(big.Int).SetBit(r, bit, 1)
		if new(big.Int).Exp(more, big.NewInt(int64(degree)), nil).Cmp(x) <= 0 {
			r = more
		}
	}
	return r
}

// defined returns the hash of b as the chapter's words tell it, step by step.
func defined(b []byte) [32]byte {
	rot := func(x uint32, n int) uint32 { return x>>n | x<<(32-n) }
	p := append(slices.Clone(b), 128)
	for (len(p)+8)%64 != 0 {
		p = append(p, 0)
	}
	for i := range 8 {
		p = append(p, byte(uint64(8*len(b))>>(56-8*i)))
	}
	H, K := rootBits(8, 2), rootBits(64, 3)
	for block := range slices.Chunk(p, 64) {
		var W [64]uint32
		for i := range 16 {
			for j := range 4 {
				W[i] |= uint32(block[4*i+j]) << (24 - 8*j)
			}
		}
		for i := 16; i < 64; i++ {
			s1 := rot(W[i-2], 17) ^ rot(W[i-2], 19) ^ W[i-2]>>10
			s0 := rot(W[i-15], 7) ^ rot(W[i-15], 18) ^ W[i-15]>>3
			W[i] = s1 + W[i-7] + s0 + W[i-16]
		}
		A, B, C, D, E, F, G, I := H[0], H[1], H[2], H[3], H[4], H[5], H[6], H[7]
		for i := range 64 {
			T := I + (rot(E, 6) ^ rot(E, 11) ^ rot(E, 25)) + ((E & F) ^ (^E & G)) + K[i] + W[i]
			U := (rot(A, 2) ^ rot(A, 13) ^ rot(A, 22)) + ((A & B) ^ (A & C) ^ (B & C))
			I, G, F = G, F, E
			E = D + T
			D, C, B = C, B, A
			A = T + U
		}
		for i, x := range []uint32{A, B, C, D, E, F, G, I} {
			H[i] += x
		}
	}
	var sum [32]byte
	for i := range sum {
		sum[i] = byte(H[i/4] >> (24 - 8*(i%4)))
	}
	return sum
}

func TestSumByDefinition(t *testing.T) {
	for _, n := range []int{0, 1, 3, 55, 56, 63, 64, 65, 119, 120, 128, 1000} {
		b := someBytes(n, 7)
		if got, want := sha.Sum(b), defined(b); got != want {
			t.Errorf("Sum of %d bytes = %x, want %x", n, got, want)
		}
	}
}

// P4.2

// A key of 64 bytes is taken as it is, one of 65 is replaced by its Sum.
func TestMacOfAllLengths(t *testing.T) {
	for n := range 2*64 + 5 {
		for _, m := range []int{0, 1, 31, 32, 55, 56, 64, 65, 200} {
			key, b := someBytes(n, 1), someBytes(m, 2)
			if got, want := sha.Mac(key, b), wantMac(key, b); got != want {
				t.Errorf("Mac of %d bytes by %d = %x, want %x", m, n, got, want)
			}
		}
	}
}

func TestMacByDefinition(t *testing.T) {
	for _, n := range []int{0, 1, 63, 64, 65, 300} {
		key, b := someBytes(n, 3), someBytes(100, n)
		full := slices.Clone(key)
		if n > 64 {
			sum := sha.Sum(key)
			full = sum[:]
		}
		full = append(full, make([]byte, 64-len(full))...)
		var in, out []byte
		for _, x := range full {
			in = append(in, x^54)
			out = append(out, x^92)
		}
		sum := sha.Sum(append(in, b...))
		if got, want := sha.Mac(key, b), sha.Sum(append(out, sum[:]...)); got != want {
			t.Errorf("Mac by %d bytes = %x, want %x", n, got, want)
		}
	}
}

func TestMacKeysThatAreTheSame(t *testing.T) {
	b := someBytes(70, 4)
	long := someBytes(65, 5)
	sum := sha.Sum(long)
	for name, keys := range map[string][2][]byte{
		"a long key and its Sum":    {long, sum[:]},
		"none and 64 zero bytes":    {nil, make([]byte, 64)},
		"none, nil and empty":       {nil, {}},
		"a short key and a zero":    {{1, 2}, {1, 2, 0}},
		"a short key and all zeros": {{1, 2}, append([]byte{1, 2}, make([]byte, 62)...)},
	} {
		if sha.Mac(keys[0], b) != sha.Mac(keys[1], b) {
			t.Errorf("%s: the Macs differ", name)
		}
	}
	for name, keys := range map[string][2][]byte{
		"64 and 65 zero bytes":     {make([]byte, 64), make([]byte, 65)},
		"a zero byte ahead":        {{1, 2}, {0, 1, 2}},
		"64 bytes and their Sum":   {long[:64], sumOf(long[:64])},
		"in the last of 64 bytes":  {append(make([]byte, 63), 1), make([]byte, 64)},
		"in the last of 300 bytes": {append(make([]byte, 299), 1), make([]byte, 300)},
	} {
		if sha.Mac(keys[0], b) == sha.Mac(keys[1], b) {
			t.Errorf("%s: the Macs are the same", name)
		}
	}
}

// sumOf returns the Sum of b as a slice.
func sumOf(b []byte) []byte {
	sum := sha.Sum(b)
	return sum[:]
}

// P4.3: most of the published ones are those of the examples of FIPS 180 and of
// RFC 4231.

func TestPublishedSums(t *testing.T) {
	for _, x := range []struct{ b, want string }{
		{"", "e3b0c44298fc1c149afbf4c8996fb92427ae41e4649b934ca495991b7852b855"},
		{"a", "ca978112ca1bbdcafac231b39a23dc4da786eff8147c4e72b9807785afee48bb"},
		{"abc", "ba7816bf8f01cfea414140de5dae2223b00361a396177a9cb410ff61f20015ad"},
		{"message digest", "f7846f55cf23e14eebeab5b4e1550cad5b509e3348fbc4efa3a1413d393cb650"},
		{"abcdefghijklmnopqrstuvwxyz", "71c480df93d6ae2f1efad1447c66c9525e316218cf51fc8d9ed832f2daf18b73"},
		{"abcdbcdecdefdefgefghfghighijhijkijkljklmklmnlmnomnopnopq",
			"248d6a61d20638b8e5c026930c3e6039a33ce45964ff2167f6ecedd419db06c1"},
		{"abcdefghbcdefghicdefghijdefghijkefghijklfghijklmghijklmnhijklmnoijklmnopjklmnopqklmnopqrlmnopqrsmnopqrstnopqrstu",
			"cf5b16a778af8380036ce59e7b0492370b249b11e8f07a51afac45037afee9d1"},
		{strings.Repeat("a", 1000000), "cdc76e5c9914fb9281a1c7e284d73e67f1809a48a497200e046d39ccc7112cd0"},
		{"\xbd", "68325720aabd7c82f30f554b313d0570c95accbb7dc4b5aae11204c08ffe732b"},
		{"\xc9\x8c\x8e\x55", "7abc22c0ae5af26ce93dbb94433a0e0b2e119d014f8e7f65bd56c61ccccd9504"},
		{strings.Repeat("\x00", 55), "02779466cdec163811d078815c633f21901413081449002f24aa3e80f0b88ef7"},
		{strings.Repeat("\x00", 56), "d4817aa5497628e7c77e6b606107042bbba3130888c5f47a375e6179be789fbb"},
		{strings.Repeat("\x00", 57), "65a16cb7861335d5ace3c60718b5052e44660726da4cd13bb745381b235a1785"},
		{strings.Repeat("\x00", 64), "f5a5fd42d16a20302798ef6ed309979b43003d2320d9f0e8ea9831a92759fb4b"},
		{strings.Repeat("\x00", 1000), "541b3e9daa09b20bf85fa273e5cbd3e80185aa4ec298e765db87742b70138a53"},
		{strings.Repeat("A", 1000), "c2e686823489ced2017f6059b8b239318b6364f6dcd835d0a519105a1eadd6e4"},
		{strings.Repeat("U", 1005), "f4d62ddec0f3dd90ea1380fa16a5ff8dc4c54b21740650f24afc4120903552b0"},
	} {
		if got := hexOf(sha.Sum([]byte(x.b))); got != x.want {
			t.Errorf("Sum of %d bytes = %s, want %s", len(x.b), got, x.want)
		}
	}
}

func TestPublishedMacs(t *testing.T) {
	aa := strings.Repeat("\xaa", 131)
	for i, x := range []struct{ key, b, want string }{
		{strings.Repeat("\x0b", 20), "Hi There",
			"b0344c61d8db38535ca8afceaf0bf12b881dc200c9833da726e9376c2e32cff7"},
		{"Jefe", "what do ya want for nothing?",
			"5bdcc146bf60754e6a042426089575c75a003f089d2739839dec58b964ec3843"},
		{strings.Repeat("\xaa", 20), strings.Repeat("\xdd", 50),
			"773ea91e36800e46854db8ebd09181a72959098b3ef8c122d9635514ced565fe"},
		{"\x01\x02\x03\x04\x05\x06\x07\x08\x09\x0a\x0b\x0c\x0d\x0e\x0f\x10\x11\x12\x13\x14\x15\x16\x17\x18\x19",
			strings.Repeat("\xcd", 50),
			"82558a389a443c0ea4cc819899f2083a85f0faa3e578f8077a2e3ff46729665b"},
		{aa, "Test Using Larger Than Block-Size Key - Hash Key First",
			"60e431591ee0b67f0d8a26aacbf5b77f8e0bc6213728c5140546040f0ee37f54"},
		{aa, "This is a test using a larger than block-size key and a larger than block-size data. " +
			"The key needs to be hashed before being used by the HMAC algorithm.",
			"9b09ffa71b942fcb27635fbcd5b0e944bfdc63644f0713938a7f51535c3a35e2"},
		{"", "", "b613679a0814d9ec772f95d778c35fc5ff1697c493715653c6c712144292c5ad"},
		{"key", "The quick brown fox jumps over the lazy dog",
			"f7bc83f430538424b13298e6aa6fb143ef4d59a14946175997479dbc2d1a3cd8"},
	} {
		if got := hexOf(sha.Mac([]byte(x.key), []byte(x.b))); got != x.want {
			t.Errorf("%d: Mac = %s, want %s", i, got, x.want)
		}
	}
}

// R3, R4: what is handed in stays as it is, also behind its end, where its
// memory goes on, and no call hangs on those before it.
func TestArgumentsStay(t *testing.T) {
	for _, n := range []int{0, 1, 20, 55, 56, 63, 64, 65, 200} {
		memory := someBytes(1000, n)
		was := slices.Clone(memory)
		key, b := memory[100:100+n], memory[500:500+n]
		sum, mac := sha.Sum(b), sha.Mac(key, b)
		if !bytes.Equal(memory, was) {
			t.Fatalf("%d bytes: what was handed in is changed", n)
		}
		sha.Sum(someBytes(100, 1))
		sha.Mac(someBytes(100, 1), someBytes(100, 2))
		if sha.Sum(b) != sum || sha.Mac(key, b) != mac {
			t.Errorf("%d bytes: a second call returns something else", n)
		}
	}
}

// FuzzBytes holds Sum and Mac against the library's.
func FuzzBytes(f *testing.F) {
	f.Add([]byte(nil), []byte(nil))
	f.Add([]byte("Jefe"), []byte("what do ya want for nothing?"))
	f.Add(make([]byte, 65), make([]byte, 56))
	f.Fuzz(func(t *testing.T, key, b []byte) {
		if got := sha.Sum(b); got != sha256.Sum256(b) {
			t.Errorf("Sum of %x = %x", b, got)
		}
		if got := sha.Mac(key, b); got != wantMac(key, b) {
			t.Errorf("Mac of %x by %x = %x", b, key, got)
		}
	})
}
