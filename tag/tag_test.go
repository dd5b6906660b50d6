package tag_test

import (
	"hash/crc32"
	"math"
	"slices"
	"strings"
	"testing"

	"triptych/api"
	"triptych/crc"
	"triptych/tag"
)

// blank is an erased sector.
var blank = strings.Repeat("\xff", 64)

// noise is n bytes from a fixed rule, unlike for unlike seeds.
func noise(n int, seed uint64) string {
	b := make([]byte, n)
	for i := range b {
		seed = seed*6364136223846793005 + 1442695040888963407
		b[i] = byte(seed >> 56)
	}
	return string(b)
}

// repeated is a block whose bytes are all the same.
func repeated(c byte) api.Block {
	var b api.Block
	for i := range b {
		b[i] = c
	}
	return b
}

// plain is block i of a text, taken byte by byte.
func plain(text string, i int) api.Block {
	var b api.Block
	for j := range 60 {
		if at := 60*i + j; at < len(text) {
			b[j] = text[at]
		}
	}
	return b
}

// blocks are blocks of many kinds: all bytes alike, one bit alone, one byte alone that isn't 255, and noise.
func blocks() []api.Block {
	var l []api.Block
	for c := range 256 {
		l = append(l, repeated(byte(c)), plain(noise(60, uint64(c)), 0))
	}
	for at := range 60 {
		for bit := range 8 {
			var b api.Block
			b[at] = 1 << bit
			other := repeated(255)
			other[at] = ^b[at]
			l = append(l, b, other)
		}
	}
	return l
}

// sealed is a text with its sum behind it, the highest byte first, by the language's library.
func sealed(text string) string {
	n := crc32.ChecksumIEEE([]byte(text))
	return text + string([]byte{byte(n >> 24), byte(n >> 16), byte(n >> 8), byte(n)})
}

// numbers are how many blocks may be asked for: all near the edges, and some that are far off.
func numbers() []int {
	l := []int{math.MinInt, math.MinInt + 1, -1 << 32, -64, 100, 128, 256, 1 << 31, 1 << 32, 1<<32 + 1, 1 << 60, math.MaxInt - 1, math.MaxInt}
	for n := -3; n <= 67; n++ {
		l = append(l, n)
	}
	return l
}

// texts are texts of lengths at which a block, or all 64, are just full, and their neighbours.
func texts() []string {
	l := []string{"ab", "grüße", "\x00", "\xff", strings.Repeat("\x00", 61), strings.Repeat("\xff", 3840), strings.Repeat("ü€", 100)}
	for _, n := range []int{0, 1, 30, 59, 60, 61, 119, 120, 121, 179, 180, 181, 3779, 3780, 3781, 3839, 3840, 3841, 3899, 3900, 3901, 10_000} {
		l = append(l, noise(n, uint64(n)))
	}
	return l
}

// P10.1: the chapter's example, whole.
func TestExample(t *testing.T) {
	if l := tag.Split("ab", 1); len(l) != 1 || l[0] != (api.Block{'a', 'b'}) {
		t.Error(l)
	}
}

// P10.1: sectors that are written out.
func TestSealWritten(t *testing.T) {
	c := crc.New()
	for _, k := range []struct {
		b    api.Block
		want string
	}{
		{api.Block{}, strings.Repeat("\x00", 60) + "\x04\x12\x89\x08"},
		{repeated(255), strings.Repeat("\xff", 60) + "\xf4\x8c\xf1\x4d"},
		{api.Block{'a', 'b'}, "ab" + strings.Repeat("\x00", 58) + "\x8b\xae\x6d\x01"},
	} {
		if s := tag.Seal(c, k.b); s != k.want {
			t.Errorf("%q, want %q", s, k.want)
		}
	}
}

// P10.1: a sector is the block's bytes and their sum, and the block comes back from it.
func TestSealAndOpen(t *testing.T) {
	c := crc.New()
	for _, b := range blocks() {
		s := tag.Seal(c, b)
		if len(s) != 64 || s != sealed(string(b[:])) || s != c.Seal(string(b[:])) {
			t.Fatalf("Seal of %q: %q", b, s)
		}
		if tag.Blank(s) {
			t.Fatalf("the sector of %q is blank", b)
		}
		if back, ok := tag.Open(c, s); back != b || !ok {
			t.Fatalf("%q came back as %q, %v", b, back, ok)
		}
	}
}

// P10.1: a block made of a sector's text is the block that was sealed, also where the sector came from elsewhere.
func TestOpenOther(t *testing.T) {
	c := crc.New()
	for n := range 200 {
		text := noise(60, uint64(n))
		if b, ok := tag.Open(c, sealed(text)); string(b[:]) != text || !ok {
			t.Fatalf("%q came back as %q, %v", text, b, ok)
		}
	}
}

// P10.1: whichever bit of a sector is turned, its tag isn't right; the block is that of its bytes as they are.
func TestOpenTurned(t *testing.T) {
	c := crc.New()
	for _, b := range []api.Block{{}, repeated(255), {'a', 'b'}, plain(noise(60, 5), 0)} {
		s := tag.Seal(c, b)
		for bit := range 8 * len(s) {
			x := []byte(s)
			x[bit/8] ^= 1 << (bit % 8)
			if got, ok := tag.Open(c, string(x)); ok || string(got[:]) != string(x[:60]) {
				t.Fatalf("bit %d of %q turned: %q, %v", bit, s, got, ok)
			}
		}
	}
}

// P10.1: whichever four bytes beside one another are turned, all in the block or all in the tag, it is told.
func TestOpenTurnedBytes(t *testing.T) {
	c := crc.New()
	s := tag.Seal(c, plain(noise(60, 7), 0))
	for from := range 61 {
		if 56 < from && from < 60 {
			continue
		}
		for n := range 200 {
			x := []byte(s)
			mask := noise(4, uint64(n+1))
			for i := range mask {
				x[from+i] ^= mask[i]
			}
			if got, ok := tag.Open(c, string(x)); ok || string(got[:]) != string(x[:60]) {
				t.Fatalf("from %d on turned by %q: %q, %v", from, mask, got, ok)
			}
		}
	}
}

// P10.1: tags that are nearly right: the other way round, turned, ahead, of another block, none, or of noughts.
func TestOpenWrongTag(t *testing.T) {
	c := crc.New()
	b := plain(noise(60, 9), 0)
	s := tag.Seal(c, b)
	text, sum := s[:60], s[60:]
	back := []byte(sum)
	slices.Reverse(back)
	turned := []byte(sum)
	for i := range turned {
		turned[i] = ^turned[i]
	}
	for _, end := range []string{string(back), string(turned), tag.Seal(c, api.Block{})[60:], "\x00\x00\x00\x00", "\xff\xff\xff\xff", text[:4]} {
		if got, ok := tag.Open(c, text+end); got != b || ok {
			t.Errorf("tag %q: %q, %v", end, got, ok)
		}
	}
	if got, ok := tag.Open(c, sum+text); string(got[:]) != (sum + text)[:60] || ok {
		t.Errorf("tag ahead: %q, %v", got, ok)
	}
}

// P10.1: a text that hasn't 64 bytes is no sector, even where its end is the sum of what stands ahead of it; its block is its first 60 bytes, with noughts for those that aren't there.
func TestOpenLength(t *testing.T) {
	c := crc.New()
	for n := range 200 {
		for _, s := range []string{noise(n, uint64(n)), strings.Repeat("\x00", n), strings.Repeat("\xff", n), c.Seal(noise(n, uint64(n)))} {
			if len(s) == 64 {
				continue
			}
			if b, ok := tag.Open(c, s); b != plain(s, 0) || ok {
				t.Fatalf("Open of %d bytes %q: %q, %v", len(s), s, b, ok)
			}
		}
	}
	s := tag.Seal(c, api.Block{'a', 'b'})
	for _, x := range []string{"", s[1:], s[:63], s[:60], s[:4], s[60:], s + "\x00", "\x00" + s, s + s} {
		if b, ok := tag.Open(c, x); b != plain(x, 0) || ok {
			t.Errorf("Open(%q): %q, %v", x, b, ok)
		}
	}
}

// P10.1: without a summer nothing is sealed, and no tag is right; the block is told all the same.
func TestNil(t *testing.T) {
	c := crc.New()
	for _, b := range blocks() {
		if s := tag.Seal(nil, b); s != "" {
			t.Fatalf("Seal of %q: %q", b, s)
		}
		if got, ok := tag.Open(nil, tag.Seal(c, b)); got != b || ok {
			t.Fatalf("Open of the sector of %q: %q, %v", b, got, ok)
		}
	}
	for n := range 130 {
		s := noise(n, uint64(n))
		if b, ok := tag.Open(nil, s); b != plain(s, 0) || ok {
			t.Fatalf("Open(%q): %q, %v", s, b, ok)
		}
	}
}

// P10.1: a summer that New didn't make isn't nil: it seals and opens as any other.
func TestNotMadeByNew(t *testing.T) {
	var zero crc.Crc
	b := api.Block{'a', 'b'}
	s := tag.Seal(&zero, b)
	if s != tag.Seal(crc.New(), b) {
		t.Errorf("%q", s)
	}
	if got, ok := tag.Open(&zero, s); got != b || !ok {
		t.Errorf("%q, %v", got, ok)
	}
	if got, ok := tag.Open(&zero, blank); got != repeated(255) || ok {
		t.Errorf("%q, %v", got, ok)
	}
}

// P10.1: only 64 bytes that are all 255 are blank.
func TestBlank(t *testing.T) {
	for n := range 200 {
		if tag.Blank(strings.Repeat("\xff", n)) != (n == 64) {
			t.Error(n)
		}
		if tag.Blank(strings.Repeat("\x00", n)) {
			t.Error(n, "noughts")
		}
	}
	for at := range 64 {
		for v := range 255 {
			x := []byte(blank)
			x[at] = byte(v)
			if tag.Blank(string(x)) {
				t.Fatal(at, v)
			}
		}
	}
	for _, s := range []string{"ÿ" + blank[2:], strings.Repeat("ÿ", 32), strings.Repeat("ÿ", 64), noise(64, 3), blank + "\x00", "\x00" + blank, blank + blank} {
		if tag.Blank(s) {
			t.Errorf("%q", s)
		}
	}
}

// P10.1: a blank sector's tag isn't right; its block is 255 everywhere.
func TestOpenBlank(t *testing.T) {
	if b, ok := tag.Open(crc.New(), blank); b != repeated(255) || ok {
		t.Errorf("%q, %v", b, ok)
	}
}

// P10.1: so many blocks, less than 0 as 0, more than 64 as 64, each with its bytes of the text.
func TestSplit(t *testing.T) {
	for _, text := range texts() {
		for _, many := range numbers() {
			l := tag.Split(text, many)
			want := many
			if many < 0 {
				want = 0
			} else if many > 64 {
				want = 64
			}
			if len(l) != want {
				t.Fatalf("Split of %d bytes, %d: %d blocks", len(text), many, len(l))
			}
			for i, b := range l {
				if b != plain(text, i) {
					t.Fatalf("Split of %d bytes, %d: block %d is %q", len(text), many, i, b)
				}
			}
		}
	}
}

// P10.1: some splits, written out.
func TestSplitWritten(t *testing.T) {
	a, b := strings.Repeat("a", 60), strings.Repeat("b", 60)
	full, other := repeated('a'), repeated('b')
	for _, k := range []struct {
		text string
		many int
		want []api.Block
	}{
		{"", 0, nil},
		{"ab", 0, nil},
		{"ab", -1, nil},
		{"", 2, []api.Block{{}, {}}},
		{a, 1, []api.Block{full}},
		{a + "b", 1, []api.Block{full}},
		{a + "b", 2, []api.Block{full, {'b'}}},
		{a + b, 2, []api.Block{full, other}},
		{a + b + "c", 3, []api.Block{full, other, {'c'}}},
		{b + a, 3, []api.Block{other, full, {}}},
	} {
		if l := tag.Split(k.text, k.many); !slices.Equal(l, k.want) {
			t.Errorf("Split(%q, %d): %q", k.text, k.many, l)
		}
	}
}

// P10.1: the blocks' bytes, whole and in their order, noughts among them.
func TestJoin(t *testing.T) {
	if s := tag.Join(); s != "" {
		t.Errorf("%q", s)
	}
	if s := tag.Join(nil...); s != "" {
		t.Errorf("%q", s)
	}
	a, b := api.Block{'a'}, repeated('b')
	for _, k := range []struct {
		l    []api.Block
		want string
	}{
		{[]api.Block{{}}, strings.Repeat("\x00", 60)},
		{[]api.Block{a}, "a" + strings.Repeat("\x00", 59)},
		{[]api.Block{a, b}, "a" + strings.Repeat("\x00", 59) + strings.Repeat("b", 60)},
		{[]api.Block{b, a}, strings.Repeat("b", 60) + "a" + strings.Repeat("\x00", 59)},
		{[]api.Block{b, b, b}, strings.Repeat("b", 180)},
	} {
		if s := tag.Join(k.l...); s != k.want {
			t.Errorf("Join(%q): %q", k.l, s)
		}
	}
	for n := range 100 {
		text := noise(60*n, uint64(n))
		var l []api.Block
		for i := range n {
			l = append(l, plain(text, i))
		}
		if s := tag.Join(l...); s != text {
			t.Fatalf("Join of %d blocks: %q", n, s)
		}
	}
}

// P10.1: what is split and joined is the text again, with noughts behind it, or what is too much left out; and what is joined is split again.
func TestSplitAndJoin(t *testing.T) {
	for _, text := range texts() {
		for many := range 65 {
			want := text + strings.Repeat("\x00", 60*many)
			l := tag.Split(text, many)
			s := tag.Join(l...)
			if s != want[:60*many] {
				t.Fatalf("%d bytes, %d blocks: %q", len(text), many, s)
			}
			if !slices.Equal(tag.Split(s, many), l) {
				t.Fatalf("%d bytes, %d blocks don't come back", len(text), many)
			}
		}
	}
}

// P10.1, rule 2 of the document: no argument is written into, and no answer shares memory with one or with another answer.
func TestNothingShared(t *testing.T) {
	c := crc.New()
	l := append(make([]api.Block, 0, 3), api.Block{'a'}, api.Block{'b'})
	s := tag.Join(l...)
	if !slices.Equal(l[:3], []api.Block{{'a'}, {'b'}, {}}) {
		t.Errorf("Join wrote into its blocks: %q", l[:3])
	}
	clear(l)
	if s != "a"+strings.Repeat("\x00", 59)+"b"+strings.Repeat("\x00", 59) {
		t.Errorf("Join's answer is shared: %q", s)
	}
	one, other := tag.Split("ab", 2), tag.Split("ab", 2)
	clear(one)
	if other[0] != (api.Block{'a', 'b'}) || tag.Split("ab", 2)[0] != other[0] {
		t.Errorf("Split's answer is shared: %q", other)
	}
	b := api.Block{'x'}
	sector := tag.Seal(c, b)
	if b != (api.Block{'x'}) {
		t.Errorf("Seal wrote into its block: %q", b)
	}
	b[0] = 'y'
	if got, ok := tag.Open(c, sector); got != (api.Block{'x'}) || !ok {
		t.Errorf("Seal's answer is shared: %q, %v", got, ok)
	}
}
