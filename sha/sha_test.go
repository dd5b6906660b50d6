package sha_test

import (
	"crypto/hmac"
	"crypto/sha256"
	"fmt"
	"math/big"
	"math/bits"
	"slices"
	"strings"
	"testing"

	"triptych/api"
	"triptych/sha"
)

// nothing is the digest of no bytes.
const nothing = "e3b0c44298fc1c149afbf4c8996fb92427ae41e4649b934ca495991b7852b855"

// noise is n bytes from a fixed rule, unlike for unlike seeds.
func noise(n int, seed uint64) string {
	b := make([]byte, n)
	for i := range b {
		seed = seed*6364136223846793005 + 1442695040888963407
		b[i] = byte(seed >> 56)
	}
	return string(b)
}

// want is the library's digest.
func want(s string) api.Hash { return sha256.Sum256([]byte(s)) }

// behindPoint is the first 32 bits behind the point of a root of p: the n-th root of p * 2^(32n), rounded down, without what stands ahead of the point.
func behindPoint(p, n int) uint32 {
	x := new(big.Int).Lsh(big.NewInt(int64(p)), uint(32*n))
	root := new(big.Int)
	for bit := 40; bit >= 0; bit-- {
		try := new(big.Int).SetBit(root, bit, 1)
		if new(big.Int).Exp(try, big.NewInt(int64(n)), nil).Cmp(x) <= 0 {
			root = try
		}
	}
	return uint32(root.Uint64())
}

// primes are the first n primes.
func primes(n int) []int {
	var l []int
	for p := 2; len(l) < n; p++ {
		if !slices.ContainsFunc(l, func(q int) bool { return p%q == 0 }) {
			l = append(l, p)
		}
	}
	return l
}

// plain is the digest as the chapter's words tell it, of a whole text at once.
func plain(s string) api.Hash {
	all := []byte(s)
	all = append(all, 128)
	for len(all)%64 != 56 {
		all = append(all, 0)
	}
	for i := 7; i >= 0; i-- {
		all = append(all, byte(8*len(s)>>(8*i)))
	}
	var hs [8]uint32
	var ks [64]uint32
	for i, p := range primes(64) {
		ks[i] = behindPoint(p, 3)
		if i < 8 {
			hs[i] = behindPoint(p, 2)
		}
	}
	r := func(x uint32, n int) uint32 { return bits.RotateLeft32(x, 32-n) }
	for ; len(all) > 0; all = all[64:] {
		var w [64]uint32
		for t := range 64 {
			if t < 16 {
				w[t] = uint32(all[4*t])<<24 | uint32(all[4*t+1])<<16 | uint32(all[4*t+2])<<8 | uint32(all[4*t+3])
				continue
			}
			s0 := r(w[t-15], 7) ^ r(w[t-15], 18) ^ w[t-15]>>3
			s1 := r(w[t-2], 17) ^ r(w[t-2], 19) ^ w[t-2]>>10
			w[t] = s1 + w[t-7] + s0 + w[t-16]
		}
		a, b, c, d, e, f, g, h := hs[0], hs[1], hs[2], hs[3], hs[4], hs[5], hs[6], hs[7]
		for t := range 64 {
			t1 := h + (r(e, 6) ^ r(e, 11) ^ r(e, 25)) + (e&f | ^e&g) + ks[t] + w[t]
			t2 := (r(a, 2) ^ r(a, 13) ^ r(a, 22)) + (a&b | a&c | b&c)
			h, g, f, e, d, c, b, a = g, f, e, d+t1, c, b, a, t1+t2
		}
		for i, x := range []uint32{a, b, c, d, e, f, g, h} {
			hs[i] += x
		}
	}
	var out api.Hash
	for i := range out {
		out[i] = byte(hs[i/4] >> (8 * (3 - i%4)))
	}
	return out
}

// P3.1: digests that are known.
func TestSumKnown(t *testing.T) {
	for _, k := range []struct{ s, want string }{
		{"", nothing},
		{"abc", "ba7816bf8f01cfea414140de5dae2223b00361a396177a9cb410ff61f20015ad"},
		{"abcdbcdecdefdefgefghfghighijhijkijkljklmklmnlmnomnopnopq", "248d6a61d20638b8e5c026930c3e6039a33ce45964ff2167f6ecedd419db06c1"},
		{"abcdefghbcdefghicdefghijdefghijkefghijklfghijklmghijklmnhijklmnoijklmnopjklmnopqklmnopqrlmnopqrsmnopqrstnopqrstu", "cf5b16a778af8380036ce59e7b0492370b249b11e8f07a51afac45037afee9d1"},
		{strings.Repeat("a", 1_000_000), "cdc76e5c9914fb9281a1c7e284d73e67f1809a48a497200e046d39ccc7112cd0"},
		{"The quick brown fox jumps over the lazy dog", "d7a8fbb307d7809469ca9abcb0082e4f8d5651e46d3cdb762d02d0bf37c9e592"},
	} {
		if x := sha.Hex(sha.Sum(k.s)); x != k.want {
			t.Errorf("Sum of %d bytes, %.20q: %s, not %s", len(k.s), k.s, x, k.want)
		}
	}
}

// P3.1: the digest is the chapter's, for each length around the ends of blocks.
func TestSumPlain(t *testing.T) {
	if sha.Sum() != plain("") {
		t.Error("Sum of no texts")
	}
	for n := range 260 {
		for _, s := range []string{noise(n, uint64(n)), strings.Repeat("\x00", n), strings.Repeat("\xff", n)} {
			h := sha.Sum(s)
			if h != plain(s) {
				t.Errorf("Sum of %d bytes: not what the chapter says", n)
			}
			if h != want(s) {
				t.Errorf("Sum of %d bytes: not what the library says", n)
			}
		}
	}
}

// P3.1: the number of bits has more than two bytes, and each counts.
func TestSumLong(t *testing.T) {
	for _, n := range []int{1<<13 - 1, 1 << 13, 1<<21 - 1, 1 << 21, 1<<21 + 55, 3_000_001} {
		s := noise(n, 3)
		if sha.Sum(s) != want(s) {
			t.Errorf("Sum of %d bytes", n)
		}
	}
}

// P3.1: Sum takes texts one behind the other.
func TestSumOfTexts(t *testing.T) {
	for n := range 140 {
		s := noise(n, 11)
		for i := range n + 1 {
			if sha.Sum(s[:i], s[i:]) != want(s) || sha.Sum("", s[:i], "", s[i:], "") != want(s) {
				t.Fatalf("Sum of %d bytes, cut at %d", n, i)
			}
		}
	}
	if sha.Sum("ab", "c") != want("abc") || sha.Sum("", "") != want("") {
		t.Error("Sum of some texts")
	}
}

// P3.1: however what is taken is cut, by one Write or by many.
func TestWriteCut(t *testing.T) {
	s := noise(400, 5)
	for size := 1; size <= 200; size++ {
		many, one := sha.New(), sha.New()
		var l []string
		for at := 0; at < len(s); at += size {
			piece := s[at:min(at+size, len(s))]
			many.Write(piece)
			l = append(l, piece)
		}
		kept := slices.Clone(l)
		one.Write(l...)
		if many.Sum() != want(s) || one.Sum() != want(s) {
			t.Errorf("pieces of %d bytes", size)
		}
		if many.Len() != len(s) || one.Len() != len(s) {
			t.Errorf("pieces of %d bytes: Len %d, %d", size, many.Len(), one.Len())
		}
		if !slices.Equal(l, kept) {
			t.Errorf("pieces of %d bytes: Write wrote into its argument", size)
		}
	}
	for a := range 131 {
		for b := a; b < 131; b += 7 {
			d := sha.New()
			d.Write(s[:a])
			d.Write()
			d.Write("", s[a:b])
			d.Write(s[b:131])
			if d.Sum() != want(s[:131]) || d.Len() != 131 {
				t.Errorf("cut at %d and %d", a, b)
			}
		}
	}
}

// P3.1: Sum tells of all that was taken, and the digest goes on as it was.
func TestSumGoesOn(t *testing.T) {
	s := noise(300, 9)
	d := sha.New()
	for i := range len(s) {
		if d.Len() != i {
			t.Fatalf("Len is %d behind %d bytes", d.Len(), i)
		}
		if d.Sum() != want(s[:i]) || d.Sum() != want(s[:i]) || d.Len() != i {
			t.Fatalf("Sum behind %d bytes", i)
		}
		d.Write(s[i : i+1])
	}
	if d.Sum() != want(s) {
		t.Error("Sum behind all")
	}
}

// P3.1: behind Reset nothing is taken, wherever it comes.
func TestReset(t *testing.T) {
	for n := range 130 {
		d := sha.New()
		d.Write(noise(n, 1))
		d.Reset()
		if d.Len() != 0 || sha.Hex(d.Sum()) != nothing {
			t.Errorf("Reset behind %d bytes: %d, %s", n, d.Len(), sha.Hex(d.Sum()))
		}
		d.Write("a", "bc")
		if d.Len() != 3 || d.Sum() != want("abc") {
			t.Errorf("Write behind Reset behind %d bytes", n)
		}
	}
}

// P3.1: New has taken nothing; two digests don't touch one another.
func TestNew(t *testing.T) {
	a, b := sha.New(), sha.New()
	if a.Len() != 0 || sha.Hex(a.Sum()) != nothing {
		t.Error("New has taken something")
	}
	a.Write(noise(100, 1))
	if b.Len() != 0 || sha.Hex(b.Sum()) != nothing {
		t.Error("a digest takes what another is given")
	}
	b.Write("abc")
	if a.Sum() != want(noise(100, 1)) || b.Sum() != want("abc") {
		t.Error("two digests touch one another")
	}
	if sha.New().Sum() != want("") || sha.Sum("abc") != want("abc") {
		t.Error("what was taken stays for others")
	}
}

// P3.1: a nil digest is that of nothing; it takes nothing.
func TestNil(t *testing.T) {
	var d *sha.Digest
	d.Write("abc")
	d.Write()
	d.Reset()
	if d.Len() != 0 || sha.Hex(d.Sum()) != nothing {
		t.Errorf("a nil digest: %d, %s", d.Len(), sha.Hex(d.Sum()))
	}
}

// P3.1: a digest that New didn't make is one that has taken nothing.
func TestZeroDigest(t *testing.T) {
	var d sha.Digest
	if d.Len() != 0 || sha.Hex(d.Sum()) != nothing {
		t.Errorf("a zero digest: %d, %s", d.Len(), sha.Hex(d.Sum()))
	}
	d.Write()
	d.Write("")
	d.Write("abc")
	if d.Len() != 3 || d.Sum() != want("abc") {
		t.Error("a zero digest takes texts otherwise")
	}
	var e sha.Digest
	e.Reset()
	e.Write(noise(64, 1))
	if e.Sum() != want(noise(64, 1)) {
		t.Error("a zero digest that is reset takes texts otherwise")
	}
}

// P3.1: tags that are known (RFC 4231).
func TestMacKnown(t *testing.T) {
	for _, k := range []struct{ key, s, want string }{
		{strings.Repeat("\x0b", 20), "Hi There", "b0344c61d8db38535ca8afceaf0bf12b881dc200c9833da726e9376c2e32cff7"},
		{"Jefe", "what do ya want for nothing?", "5bdcc146bf60754e6a042426089575c75a003f089d2739839dec58b964ec3843"},
		{strings.Repeat("\xaa", 20), strings.Repeat("\xdd", 50), "773ea91e36800e46854db8ebd09181a72959098b3ef8c122d9635514ced565fe"},
		{strings.Repeat("\xaa", 131), "Test Using Larger Than Block-Size Key - Hash Key First", "60e431591ee0b67f0d8a26aacbf5b77f8e0bc6213728c5140546040f0ee37f54"},
		{"", "", "b613679a0814d9ec772f95d778c35fc5ff1697c493715653c6c712144292c5ad"},
	} {
		if x := sha.Hex(sha.Mac(k.key, k.s)); x != k.want {
			t.Errorf("Mac of %q: %s, not %s", k.s, x, k.want)
		}
	}
}

// P3.1: tags for keys of each length, around 64 bytes above all, and texts cut in pieces.
func TestMac(t *testing.T) {
	for n := range 200 {
		key, s := noise(n, 21), noise(n*2, 22)
		m := hmac.New(sha256.New, []byte(key))
		m.Write([]byte(s))
		tag := api.Hash(m.Sum(nil))
		l := []string{s[:n/3], "", s[n/3:]}
		kept := slices.Clone(l)
		if sha.Mac(key, s) != tag || sha.Mac(key, l...) != tag {
			t.Errorf("Mac by a key of %d bytes", n)
		}
		if !slices.Equal(l, kept) {
			t.Errorf("Mac by a key of %d bytes wrote into its argument", n)
		}
		none := hmac.New(sha256.New, []byte(key))
		if sha.Mac(key) != api.Hash(none.Sum(nil)) {
			t.Errorf("Mac of no texts by a key of %d bytes", n)
		}
	}
}

// P3.1: alike are those whose bytes all are.
func TestEqual(t *testing.T) {
	for _, a := range []api.Hash{{}, sha.Sum("abc"), sha.Sum()} {
		if !sha.Equal(a, a) {
			t.Errorf("%x isn't equal to itself", a)
		}
		for i := range len(a) {
			for bit := range 8 {
				b := a
				b[i] ^= 1 << bit
				if sha.Equal(a, b) || sha.Equal(b, a) {
					t.Errorf("equal, but unlike in byte %d, bit %d", i, bit)
				}
			}
			for j := range i {
				b := a
				b[i] ^= 1
				b[j] ^= 1
				if sha.Equal(a, b) {
					t.Errorf("equal, but unlike in bytes %d and %d", i, j)
				}
			}
		}
	}
}

// P3.1: Hex is 64 small digits of sixteen, and Parse leads back.
func TestHexParse(t *testing.T) {
	hs := []api.Hash{{}, sha.Sum(), sha.Sum("abc")}
	for v := range 256 {
		var h api.Hash
		for i := range h {
			h[i] = byte(v + 37*i)
		}
		hs = append(hs, h)
	}
	for _, h := range hs {
		s := sha.Hex(h)
		if s != fmt.Sprintf("%x", h[:]) {
			t.Errorf("Hex of %x is %s", h, s)
		}
		if back, ok := sha.Parse(s); !ok || back != h {
			t.Errorf("Parse of %s is %x, %v", s, back, ok)
		}
	}
	if s := sha.Hex(sha.Sum("abc")); !strings.HasPrefix(s, "ba7816bf") { // the chapter's example
		t.Error(s)
	}
}

// P3.1: what isn't just such a word is no digest.
func TestParseWrong(t *testing.T) {
	good := sha.Hex(sha.Sum("abc"))
	var l []string
	for n := range 200 {
		if n != len(good) {
			l = append(l, strings.Repeat("0", n))
		}
	}
	l = append(l, good+"0", "0"+good, good[1:], " "+good, good+"\n", good+good, strings.ToUpper(good), "0x"+good[2:], "+"+good[1:], "-"+good[1:])
	l = append(l, "ä"+good[2:], strings.Repeat("é", 32), good[:62]+"_0", strings.Repeat("０", 64))
	for i := range len(good) {
		for v := range 256 {
			if !strings.Contains("0123456789abcdef", string([]byte{byte(v)})) {
				l = append(l, good[:i]+string([]byte{byte(v)})+good[i+1:])
			}
		}
	}
	for _, s := range l {
		if h, ok := sha.Parse(s); ok || h != (api.Hash{}) {
			t.Errorf("Parse of %q is %x, %v", s, h, ok)
		}
	}
}
