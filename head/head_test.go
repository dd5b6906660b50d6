package head_test

import (
	"crypto/sha256"
	"math"
	"strings"
	"testing"

	"triptych/api"
	"triptych/head"
)

// noise is n bytes from a fixed rule, unlike for unlike seeds.
func noise(n int, seed uint64) string {
	b := make([]byte, n)
	for i := range b {
		seed = seed*6364136223846793005 + 1442695040888963407
		b[i] = byte(seed >> 56)
	}
	return string(b)
}

// hash is a digest that isn't an image's: any 32 bytes may stand in a head.
func hash(seed uint64) api.Hash { return api.Hash([]byte(noise(32, seed))) }

// numbers are a version's numbers: the edges, and one of which each byte tells where it lies.
func numbers() []int { return []int{0, 1, 255, 256, 0x1234, 65534, 65535} }

// lengths are those of images: the edges of each byte, and one of which each byte tells where it lies.
func lengths() []int {
	return []int{0, 1, 47, 48, 255, 256, 65535, 65536, 0x123456, 1<<24 - 2, 1<<24 - 1}
}

// far are numbers that neither a version nor a length may have.
func far() []int {
	return []int{
		math.MinInt, math.MinInt + 1, -1 << 32, -1 << 31, -1 << 24, -65536, -2, -1,
		1 << 24, 1<<24 + 1, 1 << 31, 1<<32 - 1, 1 << 32, 1<<32 + 1, 1 << 40, 1 << 56, math.MaxInt - 1, math.MaxInt,
	}
}

// plain is a head's bytes, put one by one.
func plain(h head.Head) string {
	b := []byte{'T', 'R', 'I', 'P'}
	for _, n := range h.Version {
		b = append(b, byte(n/256), byte(n%256))
	}
	b = append(b, byte(h.Length/(1<<24)), byte(h.Length/65536%256), byte(h.Length/256%256), byte(h.Length%256))
	for _, c := range h.Hash {
		b = append(b, c)
	}
	return string(append(b, 0, 0))
}

// heads are heads that may be: each number at its edges, with like and unlike others beside it.
func heads() []head.Head {
	var l []head.Head
	for i, n := range numbers() {
		for at := range 3 {
			var v api.Version
			v[at] = n
			l = append(l, head.Head{Version: v}, head.Head{Version: v, Length: 77, Hash: hash(uint64(i))})
		}
		l = append(l, head.Head{Version: api.Version{n, n, n}, Length: n, Hash: hash(uint64(n))})
	}
	for i, n := range lengths() {
		l = append(l, head.Head{Length: n}, head.Head{Version: api.Version{1, 2, 3}, Length: n, Hash: hash(uint64(i))})
	}
	for c := range 256 {
		h := head.Head{Version: api.Version{c, 3 * c, 7 * c}, Length: 9 * c}
		for i := range h.Hash {
			h.Hash[i] = byte(c)
		}
		l = append(l, h)
	}
	return l
}

// wrong are heads that may not be: one number of each is outside its range.
func wrong() []head.Head {
	var l []head.Head
	for _, n := range append(far(), 65536, 65537, 1<<24-1) {
		for at := range 3 {
			h := head.Head{Version: api.Version{1, 2, 3}, Length: 4, Hash: hash(5)}
			h.Version[at] = n
			l = append(l, h)
		}
	}
	for _, n := range far() {
		l = append(l, head.Head{Length: n}, head.Head{Version: api.Version{1, 2, 3}, Length: n, Hash: hash(5)})
	}
	return l
}

// images are images of many lengths, and some that begin or end as others do.
func images() []string {
	l := []string{"abc", "abd", "\x00", "\x00\x00", "\xff", strings.Repeat("\xff", 64)}
	for n := range 130 {
		l = append(l, noise(n, 1))
	}
	return append(l, noise(3840, 2), noise(70000, 3))
}

// P12.1: the chapter's example, and the same head's bytes written out.
func TestExample(t *testing.T) {
	s, err := head.Put(head.Of(api.Version{1, 2, 3}, "abc"))
	digest := "\xba\x78\x16\xbf\x8f\x01\xcf\xea\x41\x41\x40\xde\x5d\xae\x22\x23" +
		"\xb0\x03\x61\xa3\x96\x17\x7a\x9c\xb4\x10\xff\x61\xf2\x00\x15\xad"
	if want := "TRIP\x00\x01\x00\x02\x00\x03\x00\x00\x00\x03" + digest + "\x00\x00"; s != want || err != api.OK {
		t.Errorf("%q %v, want %q", s, err, want)
	}
	if head.Size != 48 || len(s) != 48 {
		t.Error(head.Size, len(s))
	}
}

// P12.1: Right tells whether all numbers are in their ranges, whatever the digest is.
func TestRight(t *testing.T) {
	for _, h := range heads() {
		if !head.Right(h) {
			t.Error(h)
		}
	}
	for _, h := range wrong() {
		if head.Right(h) {
			t.Error(h)
		}
	}
}

// P12.1: Put is the letters, the numbers, the digest and two noughts; ErrArg of a head that isn't right.
func TestPut(t *testing.T) {
	for _, h := range heads() {
		if s, err := head.Put(h); s != plain(h) || err != api.OK {
			t.Errorf("%v: %q %v", h, s, err)
		}
	}
	for _, h := range wrong() {
		if s, err := head.Put(h); s != "" || err != api.ErrArg {
			t.Errorf("%v: %q %v", h, s, err)
		}
	}
}

// P12.1: Get is the head whose bytes Put tells; what stands behind them doesn't matter.
func TestGet(t *testing.T) {
	behind := []string{"", "\x00", "image", strings.Repeat("\xff", 100), plain(head.Head{Length: 9, Hash: hash(9)})}
	for _, h := range heads() {
		for _, s := range behind {
			if g, err := head.Get(plain(h) + s); g != h || err != api.OK {
				t.Errorf("%v, %q behind: %v %v", h, s, g, err)
			}
		}
	}
}

// P12.1: Put of what Get tells are the same bytes, whatever stands where any may stand.
func TestThere(t *testing.T) {
	for i := range 2000 {
		s := "TRIP" + noise(6, uint64(i)) + "\x00" + noise(35, uint64(i)+9000) + "\x00\x00"
		h, err := head.Get(s)
		if err != api.OK || !head.Right(h) || plain(h) != s {
			t.Fatalf("%q: %v %v", s, h, err)
		}
		if back, err := head.Put(h); back != s || err != api.OK {
			t.Fatalf("%q: %q %v", s, back, err)
		}
	}
}

// P12.1: ErrShort of fewer than 48 bytes, whatever they are.
func TestShort(t *testing.T) {
	whole := plain(head.Of(api.Version{1, 2, 3}, "abc"))
	for n := range 48 {
		for _, s := range []string{whole[:n], whole[48-n:], strings.Repeat("\x00", n), strings.Repeat("\xff", n), noise(n, 7)} {
			if h, err := head.Get(s); h != (head.Head{}) || err != api.ErrShort {
				t.Errorf("%q: %v %v", s, h, err)
			}
		}
	}
}

// P12.1: each other value of each byte: ErrForm in the letters, the length's first byte and the noughts, another head elsewhere.
func TestForm(t *testing.T) {
	whole := plain(head.Head{Version: api.Version{0x0102, 0x0304, 0x0506}, Length: 0x070809, Hash: hash(8)})
	for at := range len(whole) {
		fixed := at < 4 || at == 10 || at >= 46
		for x := 1; x < 256; x++ {
			b := []byte(whole)
			b[at] ^= byte(x)
			for _, s := range []string{string(b), string(b) + "image", string(b) + whole} {
				h, err := head.Get(s)
				if fixed && (h != (head.Head{}) || err != api.ErrForm) || !fixed && (plain(h) != string(b) || err != api.OK) {
					t.Fatalf("byte %d against %d: %v %v", at, x, h, err)
				}
			}
		}
	}
}

// P12.1: bytes that are no head's: letters alike but for their size or place, erased and empty bytes, noise.
func TestNoHead(t *testing.T) {
	whole := plain(head.Of(api.Version{1, 2, 3}, "abc"))
	l := []string{
		"trip" + whole[4:], "TRIp" + whole[4:], "PIRT" + whole[4:], " " + whole, "T" + whole, whole[1:] + whole,
		strings.Repeat("\x00", 48), strings.Repeat("\xff", 48), strings.Repeat("TRIP", 12), "TRIP" + strings.Repeat("\xff", 44),
		whole[:46] + "\x00\x01", whole[:46] + "\x01\x00", whole[:46] + "\xff\xff",
	}
	for i := range 500 {
		l = append(l, noise(48, uint64(i)), noise(100, uint64(i)))
	}
	for _, s := range l {
		if h, err := head.Get(s); h != (head.Head{}) || err != api.ErrForm {
			t.Errorf("%q: %v %v", s, h, err)
		}
	}
}

// P12.1: Of is the version, the image's length, and its digest, by the language's library.
func TestOf(t *testing.T) {
	for i, image := range append(images(), "") {
		v := api.Version{i, 65535 - i, 3}
		want := head.Head{Version: v, Length: len(image), Hash: sha256.Sum256([]byte(image))}
		h := head.Of(v, image)
		if h != want || !head.Right(h) || !head.Matches(h, image) {
			t.Error(len(image), h)
		}
		s, err := head.Put(h)
		if g, e := head.Get(s + image); g != h || err != api.OK || e != api.OK {
			t.Error(len(image), err, e, g)
		}
	}
}

// P12.1: an image of the greatest length has a head that is right; one that is longer, or a version that may not be, has one that isn't.
func TestOfEdges(t *testing.T) {
	image := strings.Repeat("i", 1<<24)
	for _, n := range []int{1<<24 - 1, 1 << 24} {
		h := head.Of(api.Version{}, image[:n])
		s, err := head.Put(h)
		if n == 1<<24-1 && (!head.Right(h) || err != api.OK || s != plain(h)) {
			t.Error("the longest:", head.Right(h), err)
		}
		if n == 1<<24 && (head.Right(h) || err != api.ErrArg || s != "") {
			t.Error("a longer one:", head.Right(h), err)
		}
		if h.Length != n || h.Hash != sha256.Sum256([]byte(image[:n])) || !head.Matches(h, image[:n]) {
			t.Error(n, h)
		}
	}
	for _, n := range append(far(), 65536) {
		v := api.Version{0, n, 0}
		h := head.Of(v, "abc")
		if h.Version != v || h.Length != 3 || h.Hash != sha256.Sum256([]byte("abc")) || head.Right(h) {
			t.Error(n, h)
		}
	}
}

// P12.1: Matches tells an image's head from all others; which version it is doesn't matter.
func TestMatches(t *testing.T) {
	l := append(images(), "")
	for i, image := range l {
		h := head.Of(api.Version{1, 2, 3}, image)
		for j, other := range l {
			if head.Matches(h, other) != (image == other) {
				t.Fatal(i, j)
			}
		}
		for _, v := range []api.Version{{}, {3, 2, 1}, {65535, 65535, 65535}, {-1, 65536, 0}} {
			h.Version = v
			if !head.Matches(h, image) {
				t.Error(len(image), v)
			}
		}
	}
	if head.Matches(head.Head{}, "") || head.Matches(head.Head{}, "abc") {
		t.Error("the zero head is that of no image: no digest is all noughts here")
	}
}

// P12.1: both the length and all bytes of the digest are asked.
func TestMatchesParts(t *testing.T) {
	for _, image := range []string{"", "abc", noise(3840, 4)} {
		whole := head.Of(api.Version{1, 2, 3}, image)
		for at := range 256 {
			h := whole
			h.Hash[at/8] ^= 1 << (at % 8)
			if head.Matches(h, image) {
				t.Error(len(image), "bit", at)
			}
		}
		for _, n := range append(append(lengths(), far()...), len(image)-1, len(image)+1, len(image)+1<<24, len(image)+1<<32) {
			h := whole
			h.Length = n
			if head.Matches(h, image) != (n == len(image)) {
				t.Error(len(image), "length", n)
			}
		}
	}
}

// P12.1: answers hang on nothing else than what is given: the same calls answer the same, in any order.
func TestNothingKept(t *testing.T) {
	h := head.Of(api.Version{1, 2, 3}, "abc")
	s, _ := head.Put(h)
	for _, other := range append(heads(), wrong()...) {
		t1, _ := head.Put(other)
		head.Get(t1)
		head.Get(t1 + "x")
		if a, err := head.Put(h); a != s || err != api.OK {
			t.Fatal(a, err)
		}
		if g, err := head.Get(s); g != h || err != api.OK {
			t.Fatal(g, err)
		}
	}
}
