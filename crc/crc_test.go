package crc_test

import (
	"hash/crc32"
	"slices"
	"strings"
	"testing"

	"triptych/api"
	"triptych/crc"
)

// plain is the sum as the chapter's words tell it, bit by bit.
func plain(s string) int {
	r := uint32(1<<32 - 1)
	for i := range len(s) {
		for bit := range 8 {
			unlike := r&1 != uint32(s[i]>>bit&1)
			r >>= 1
			if unlike {
				r ^= 0xEDB88320
			}
		}
	}
	return int(^r)
}

// highFirst is a number's last four bytes, the highest first.
func highFirst(n int) string {
	return string([]byte{byte(n >> 24), byte(n >> 16), byte(n >> 8), byte(n)})
}

// everyByte is a text in which each byte stands once.
func everyByte() string {
	b := make([]byte, 256)
	for i := range b {
		b[i] = byte(i)
	}
	return string(b)
}

// noise is n bytes from a fixed rule, unlike for unlike seeds.
func noise(n int, seed uint64) string {
	b := make([]byte, n)
	for i := range b {
		seed = seed*6364136223846793005 + 1442695040888963407
		b[i] = byte(seed >> 56)
	}
	return string(b)
}

// texts are texts of many kinds and lengths.
func texts() []string {
	l := []string{"", "123456789", "abc", everyByte(), strings.Repeat("\x00", 64), strings.Repeat("\xff", 64), "grüße"}
	for i := range 256 {
		l = append(l, string([]byte{byte(i)}), noise(i, uint64(i)))
	}
	return append(l, noise(100_003, 7))
}

// P2.1: sums that are known.
func TestSumKnown(t *testing.T) {
	c := crc.New()
	for _, k := range []struct {
		s    string
		want int
	}{
		{"123456789", 0xCBF43926}, // the chapter's example
		{"", 0},
		{"a", 0xE8B7BE43},
		{"abc", 0x352441C2},
		{"message digest", 0x20159D7F},
		{"The quick brown fox jumps over the lazy dog", 0x414FA339},
		{"\x00", 0xD202EF8D},
		{"\x00\x00\x00\x00", 0x2144DF1C},
		{"\xff\xff\xff\xff", 0xFFFFFFFF},
		{strings.Repeat("\x00", 32), 0x190A55AD},
		{strings.Repeat("\xff", 32), 0xFF6CAB0B},
	} {
		if n := c.Sum(k.s); n != k.want {
			t.Errorf("Sum(%q): %x, want %x", k.s, n, k.want)
		}
	}
	if n := c.Sum(); n != 0 {
		t.Errorf("Sum(): %x", n)
	}
}

// P2.1: sums of many texts, as the chapter's words tell them, and as the library of the language has them.
func TestSum(t *testing.T) {
	c := crc.New()
	for _, s := range texts() {
		n := c.Sum(s)
		if want := plain(s); n != want {
			t.Errorf("Sum of %d bytes %.20q: %x, want %x", len(s), s, n, want)
		}
		if want := int(crc32.ChecksumIEEE([]byte(s))); n != want {
			t.Errorf("Sum of %d bytes %.20q: %x, the library's %x", len(s), s, n, want)
		}
	}
}

// P2.1: of all pairs of bytes, so that each byte meets many registers.
func TestSumPairs(t *testing.T) {
	c := crc.New()
	for i := range 256 {
		for j := range 256 {
			s := string([]byte{byte(i), byte(j)})
			if n, want := c.Sum(s), plain(s); n != want {
				t.Fatalf("Sum(%q): %x, want %x", s, n, want)
			}
		}
	}
}

// P2.1: texts are summed one behind the other, however they are cut.
func TestSumCut(t *testing.T) {
	c := crc.New()
	s := noise(70, 3)
	want := plain(s)
	for i := range len(s) + 1 {
		for j := i; j <= len(s); j++ {
			if n := c.Sum(s[:i], s[i:j], s[j:]); n != want {
				t.Fatalf("cut at %d and %d: %x, want %x", i, j, n, want)
			}
		}
	}
	if n := c.Sum(strings.Split(s, "")...); n != want {
		t.Errorf("cut letter by letter: %x, want %x", n, want)
	}
	for _, l := range [][]string{{"", s}, {s, ""}, {"", "", s, "", ""}} {
		if n := c.Sum(l...); n != want {
			t.Errorf("with empty texts: %x, want %x", n, want)
		}
	}
	if n := c.Sum("", "", ""); n != 0 {
		t.Errorf("of empty texts: %x", n)
	}
	if c.Sum("ab", "c") == c.Sum("c", "ab") {
		t.Error("the texts' order doesn't matter")
	}
}

// P2.1: nothing is kept from sum to sum, nor from summer to summer.
func TestSumKeepsNothing(t *testing.T) {
	c, d := crc.New(), crc.New()
	for range 3 {
		if n := c.Sum("abc"); n != 0x352441C2 {
			t.Errorf("%x", n)
		}
		if n := d.Sum("a"); n != 0xE8B7BE43 {
			t.Errorf("%x", n)
		}
		if _, e := c.Open("wrong"); e != api.ErrSum {
			t.Error(e)
		}
		if _, e := d.Open("abc\x35\x24\x41\xc2"); e != api.OK {
			t.Error(e)
		}
	}
}

// P2.1: Seal's bytes: the texts, and the sum's four bytes, the highest first.
func TestSeal(t *testing.T) {
	c := crc.New()
	for _, k := range []struct {
		l    []string
		want string
	}{
		{[]string{"ab", "c"}, "abc\x35\x24\x41\xc2"},
		{[]string{"123456789"}, "123456789\xcb\xf4\x39\x26"},
		{nil, "\x00\x00\x00\x00"},
		{[]string{}, "\x00\x00\x00\x00"},
		{[]string{"", ""}, "\x00\x00\x00\x00"},
		{[]string{"", "a", ""}, "a\xe8\xb7\xbe\x43"},
		{[]string{"\xff\xff", "\xff\xff"}, "\xff\xff\xff\xff\xff\xff\xff\xff"},
	} {
		if s := c.Seal(k.l...); s != k.want {
			t.Errorf("Seal(%q): %q, want %q", k.l, s, k.want)
		}
	}
	for _, s := range texts() {
		if got, want := c.Seal(s), s+highFirst(plain(s)); got != want {
			t.Errorf("Seal of %d bytes %.20q: the end is %q, want %q", len(s), s, got[max(0, len(got)-4):], want[len(s):])
		}
	}
}

// P2.1: a small sum has four bytes too.
func TestSealSmallSum(t *testing.T) {
	c := crc.New()
	small := 0
	for i := range 5000 {
		s := highFirst(i)
		n := plain(s)
		if n >= 1<<24 {
			continue
		}
		small++
		sealed := c.Seal(s)
		if sealed != s+highFirst(n) {
			t.Errorf("Seal(%q): %q, the sum is %x", s, sealed, n)
		}
		if x, e := c.Open(sealed); x != s || e != api.OK {
			t.Errorf("Open(%q): %q %d", sealed, x, e)
		}
	}
	if small == 0 {
		t.Error("no small sum was met")
	}
}

// P2.1: what was sealed is opened, however it was cut; sealed twice, it is opened twice.
func TestOpen(t *testing.T) {
	c := crc.New()
	for _, s := range texts() {
		half := len(s) / 2
		if x, e := c.Open(c.Seal(s[:half], s[half:])); x != s || e != api.OK {
			t.Errorf("%d bytes %.20q came back as %.20q, %d", len(s), s, x, e)
		}
	}
	once := c.Seal("once")
	if x, e := c.Open(c.Seal(once)); x != once || e != api.OK {
		t.Errorf("%q came back as %q, %d", once, x, e)
	}
	if x, e := c.Open("\x00\x00\x00\x00"); x != "" || e != api.OK {
		t.Errorf("the sealed empty text: %q %d", x, e)
	}
}

// P2.1: fewer than four bytes are too short, whatever they are.
func TestOpenShort(t *testing.T) {
	c := crc.New()
	for _, s := range []string{"", "\x00", "\x00\x00", "\x00\x00\x00", "\xff\xff\xff", "a", "ab", "abc"} {
		if x, e := c.Open(s); x != "" || e != api.ErrShort {
			t.Errorf("Open(%q): %q %d", s, x, e)
		}
	}
}

// P2.1: an end that isn't the sum is told, and nothing else is answered.
func TestOpenSum(t *testing.T) {
	c := crc.New()
	for _, s := range []string{
		"\x00\x00\x00\x01", "\xff\xff\xff\xff", "abcd", "abc\x35\x24\x41\xc3",
		"abc\xc2\x41\x24\x35",     // the sum, the lowest byte first
		"abc\xca\xdb\xbe\x3d",     // the sum, its bits turned
		"\x35\x24\x41\xc2abc",     // the sum ahead
		"abc\x35\x24\x41\xc2\x00", // a byte behind
		"\x00abc\x35\x24\x41\xc2", // a byte ahead
		"bc\x35\x24\x41\xc2",      // a byte too few
		"abc\x35\x24\x41",
		"bac\x35\x24\x41\xc2",
	} {
		if x, e := c.Open(s); x != "" || e != api.ErrSum {
			t.Errorf("Open(%q): %q %d", s, x, e)
		}
	}
}

// P2.1: a nil summer, ahead of all else that is wrong.
func TestNil(t *testing.T) {
	var c *crc.Crc
	for _, l := range [][]string{nil, {""}, {"123456789"}, {"ab", "c"}} {
		if n := c.Sum(l...); n != 0 {
			t.Errorf("Sum(%q): %x", l, n)
		}
		if s := c.Seal(l...); s != "" {
			t.Errorf("Seal(%q): %q", l, s)
		}
	}
	for _, s := range []string{"", "abc", "\x00\x00\x00\x00", "abcd", "abc\x35\x24\x41\xc2"} {
		if x, e := c.Open(s); x != "" || e != api.ErrArg {
			t.Errorf("Open(%q): %q %d", s, x, e)
		}
	}
	if crc.New() == nil {
		t.Error("New is nil")
	}
}

// P2.1: a summer that isn't nil sums, even one that New didn't make, or a copy.
func TestNotMadeByNew(t *testing.T) {
	var zero crc.Crc
	made := *crc.New()
	for _, c := range []*crc.Crc{&zero, &made, new(crc.Crc)} {
		if n := c.Sum("1234", "56789"); n != 0xCBF43926 {
			t.Errorf("%x", n)
		}
		s := c.Seal("ab", "c")
		if s != "abc\x35\x24\x41\xc2" {
			t.Errorf("%q", s)
		}
		if x, e := c.Open(s); x != "abc" || e != api.OK {
			t.Error(x, e)
		}
		if x, e := c.Open("x" + s); x != "" || e != api.ErrSum {
			t.Error(x, e)
		}
	}
}

// P2.1, rule 2 of the document: no argument is written into.
func TestNothingWritten(t *testing.T) {
	c := crc.New()
	l := append(make([]string, 0, 4), "ab", "c")
	c.Sum(l...)
	c.Seal(l...)
	if !slices.Equal(l[:4], []string{"ab", "c", "", ""}) {
		t.Errorf("%q", l[:4])
	}
}

// window is a place in a sealed text whose bytes, four at most beside one another, are turned.
type window struct{ from, to int }

// windows are all such places of a sealed text: among its text, and among its sum.
func windows(sealed string) []window {
	end := len(sealed) - 4
	var l []window
	for from := range sealed {
		stop := end
		if from >= end {
			stop = len(sealed)
		}
		for to := from + 1; to <= min(from+4, stop); to++ {
			l = append(l, window{from, to})
		}
	}
	return l
}

// turned is s, its bytes in w turned where mask has ones.
func turned(s string, w window, mask uint32) string {
	b := []byte(s)
	for i := w.from; i < w.to; i++ {
		b[i] ^= byte(mask >> (8 * (i - w.from)))
	}
	return string(b)
}

// masks are ways in which some of the first n bits are turned: all ways of one and of two bits, runs of bits, and others from a fixed rule.
func masks(n int) []uint32 {
	var l []uint32
	for i := range n {
		for j := range i + 1 {
			l = append(l, 1<<i|1<<j, uint32(1<<(i+1)-1<<j))
		}
	}
	s := noise(4*200, uint64(n))
	for i := 0; i < len(s); i += 4 {
		m := uint32(s[i])<<24 | uint32(s[i+1])<<16 | uint32(s[i+2])<<8 | uint32(s[i+3])
		if m &= uint32(1<<n - 1); m != 0 {
			l = append(l, m)
		}
	}
	// The register's own turn, and it the other way round, are what such a sum would be blind to first.
	for _, m := range []uint32{0xEDB88320, 0x04C11DB7, 0xDB710641} {
		if m &= uint32(1<<n - 1); m != 0 {
			l = append(l, m)
		}
	}
	return l
}

// P2.2: sealed texts turned in many ways, in each place.
func TestTurned(t *testing.T) {
	c := crc.New()
	for _, text := range []string{"", "a", "abc", "abcd", "abcde", noise(12, 5), strings.Repeat("\x00", 20), strings.Repeat("\xff", 60), noise(60, 11)} {
		s := c.Seal(text)
		for _, w := range windows(s) {
			for _, m := range masks(8 * (w.to - w.from)) {
				if x, e := c.Open(turned(s, w, m)); x != "" || e != api.ErrSum {
					t.Fatalf("Open of %q, bytes %d to %d turned by %x: %q %d", s, w.from, w.to, m, x, e)
				}
			}
		}
	}
}

// P2.2: every way of turning up to two bytes beside one another is told.
func TestTurnedTwoBytes(t *testing.T) {
	c := crc.New()
	s := c.Seal(noise(6, 13))
	for _, w := range windows(s) {
		if w.to-w.from > 2 {
			continue
		}
		for m := uint32(1); m < 1<<(8*(w.to-w.from)); m++ {
			if x, e := c.Open(turned(s, w, m)); x != "" || e != api.ErrSum {
				t.Fatalf("bytes %d to %d turned by %x: %q %d", w.from, w.to, m, x, e)
			}
		}
	}
}

// free tells whether none of the numbers, nor some of them held against one another bit by bit, leave nothing.
func free(l []int) bool {
	var lead [64]int
	for _, n := range l {
		for bit := 63; bit >= 0 && n != 0; bit-- {
			if n>>bit&1 == 0 {
				continue
			}
			if lead[bit] == 0 {
				lead[bit] = n
				break
			}
			n ^= lead[bit]
		}
		if n == 0 {
			return false
		}
	}
	return true
}

// P2.2: what turned bits change in the sum is what each bit alone changes, held against one another; so if the changes of a place's 32 bits are free of one another, none of its 2^32 - 1 ways of turning them leaves the sum as it was.
func TestTurnedAllWays(t *testing.T) {
	c := crc.New()
	for n := 1; n <= 130; n++ {
		s := noise(n, uint64(n))
		was := c.Sum(s)
		for from := range max(1, n-3) {
			w := window{from, min(from+4, n)}
			var changes []int
			for bit := range 8 * (w.to - w.from) {
				changes = append(changes, was^c.Sum(turned(s, w, 1<<bit)))
			}
			if !free(changes) {
				t.Fatalf("%d bytes: some way of turning those from %d on leaves the sum", n, from)
			}
			m := uint32(0xA5C3_69F1)
			sum := was
			for bit, change := range changes {
				if m>>bit&1 == 1 {
					sum ^= change
				}
			}
			if got := c.Sum(turned(s, w, m)); got != sum {
				t.Fatalf("%d bytes, from %d on: %x, want %x", n, from, got, sum)
			}
		}
	}
}
