package stripe_test

import (
	"hash/crc32"
	"math"
	"slices"
	"strings"
	"testing"

	"triptych/api"
	"triptych/crc"
	"triptych/geo"
	"triptych/stripe"
)

// modulus is x^8 + x^4 + x^3 + x^2 + 1.
const modulus = 1<<8 | 1<<4 | 1<<3 | 1<<2 | 1

// product is the product of two bytes of the field, worked out bit by bit.
func product(a, b byte) byte {
	p := 0
	for i := range 8 {
		if b>>i&1 == 1 {
			p ^= int(a) << i
		}
	}
	for i := 14; i >= 8; i-- {
		if p>>i&1 == 1 {
			p ^= modulus << (i - 8)
		}
	}
	return byte(p)
}

// products are all of them.
var products = func() (l [256][256]byte) {
	for a := range l {
		for b := range l[a] {
			l[a][b] = product(byte(a), byte(b))
		}
	}
	return l
}()

// powers are the places at which words have to be 0.
var powers = [6]byte{1, 2, 4, 8, 16, 32}

// codeword tells whether a word with so much parity is 0 where it has to be.
func codeword(word []byte, parity int) bool {
	for _, x := range powers[:parity] {
		v := byte(0)
		for _, b := range word {
			v = products[v][x] ^ b
		}
		if v != 0 {
			return false
		}
	}
	return true
}

// column is the blocks' bytes at a place.
func column(l []api.Block, at int) []byte {
	var w []byte
	for _, b := range l {
		w = append(w, b[at])
	}
	return w
}

// allCodewords tells whether the blocks' bytes at each place are a codeword.
func allCodewords(l []api.Block, parity int) bool {
	for at := range 60 {
		if !codeword(column(l, at), parity) {
			return false
		}
	}
	return true
}

// sealed is a block's sector, its sum taken by the language's library.
func sealed(b api.Block) string {
	n := crc32.ChecksumIEEE(b[:])
	return string(b[:]) + string([]byte{byte(n >> 24), byte(n >> 16), byte(n >> 8), byte(n)})
}

// allSealed are the blocks' sectors.
func allSealed(l []api.Block) []string {
	var s []string
	for _, b := range l {
		s = append(s, sealed(b))
	}
	return s
}

// blockOf is the block of a sector's first bytes.
func blockOf(sector string) api.Block {
	var b api.Block
	copy(b[:], sector)
	return b
}

// blocksOf are the blocks of sectors that weren't turned.
func blocksOf(s []string) []api.Block {
	var l []api.Block
	for _, x := range s {
		l = append(l, blockOf(x))
	}
	return l
}

// repeated is a block whose bytes are all the same.
func repeated(c byte) api.Block {
	return blockOf(strings.Repeat(string([]byte{c}), 60))
}

// chance answers numbers that look like chance, and are always the same ones.
type chance uint32

// below is the next number.
func (c *chance) below(n int) int {
	*c = *c*1664525 + 1013904223
	return int(*c>>8) % n
}

// other is a byte that isn't 0.
func (c *chance) other() byte { return byte(1 + c.below(255)) }

// block is a block with noughts among its bytes.
func (c *chance) block() api.Block {
	var b api.Block
	for i := range b {
		if c.below(4) != 0 {
			b[i] = byte(c.below(256))
		}
	}
	return b
}

// blocks are so many blocks.
func (c *chance) blocks(n int) []api.Block {
	l := make([]api.Block, n)
	for i := range l {
		l[i] = c.block()
	}
	return l
}

// some are so many unlike numbers below n, rising.
func (c *chance) some(size, n int) []int {
	l := make([]int, n)
	for i := range l {
		j := c.below(i + 1)
		l[i] = l[j]
		l[j] = i
	}
	l = l[:size]
	slices.Sort(l)
	return l
}

// told is a sector, turned in a way that its tag tells.
func (c *chance) told(sector string) string {
	x := []byte(sector)
	switch c.below(10) {
	case 0: // one bit of the block
		x[c.below(60)] ^= 1 << c.below(8)
	case 1: // one bit of the tag
		x[60+c.below(4)] ^= 1 << c.below(8)
	case 2: // neighbours
		for i, at := 0, c.below(57); i < 4; i++ {
			x[at+i] ^= c.other()
		}
	case 3: // blank
		return strings.Repeat("\xff", 64)
	case 4: // noughts
		return strings.Repeat("\x00", 64)
	case 5: // cut off
		return sector[:c.below(64)]
	case 6: // too long, its end a right sum
		return crc.New().Seal(sector)
	case 7: // all of the tag
		for i := range 4 {
			x[60+i] ^= c.other()
		}
	case 8: // another block, and a tag that isn't its
		b := c.block()
		end := []byte(sealed(b)[60:])
		end[c.below(4)] ^= c.other()
		return string(b[:]) + string(end)
	case 9: // half of it programmed
		for i := range x[32:] {
			x[32+i] = 255
		}
	}
	return string(x)
}

// untold is a sector, turned in a way that its tag doesn't tell.
func (c *chance) untold(sector string) string {
	b := blockOf(sector)
	switch c.below(4) {
	case 0: // one bit
		b[c.below(60)] ^= 1 << c.below(8)
	case 1: // one byte
		b[c.below(60)] ^= c.other()
	case 2: // all bytes
		for i := range b {
			b[i] ^= c.other()
		}
	case 3: // another block
		other := c.block()
		other[c.below(60)] ^= 1
		if other != b {
			return sealed(other)
		}
		b[0] ^= 1
	}
	return sealed(b)
}

// anyhow is a sector, turned in one way or the other.
func (c *chance) anyhow(sector string) string {
	if c.below(2) == 0 {
		return c.told(sector)
	}
	return c.untold(sector)
}

// turned are sectors, some of which are turned by f.
func turned(s []string, which []int, f func(string) string) []string {
	x := slices.Clone(s)
	for _, i := range which {
		x[i] = f(x[i])
	}
	return x
}

// coder is what encodes and reads stripes of so many sectors.
func coder(t *testing.T, data, parity int) *stripe.Coder {
	t.Helper()
	c, e := stripe.New(geo.Geo{Data: data, Parity: parity, Stripes: 1})
	if c == nil || e != api.OK {
		t.Fatal(data, parity, c, e)
	}
	return c
}

// each goes through all kinds of stripes.
func each(t *testing.T, f func(c *stripe.Coder, data, parity int)) {
	t.Helper()
	for data := 1; data <= 8; data++ {
		for parity := 2; parity <= 6; parity++ {
			f(coder(t, data, parity), data, parity)
		}
	}
}

// encoded are a stripe's sectors.
func encoded(t *testing.T, c *stripe.Coder, data []api.Block) []string {
	t.Helper()
	s, e := c.Encode(data...)
	if e != api.OK || len(s) != c.Geo().Data+c.Geo().Parity {
		t.Fatal(c.Geo(), len(s), e)
	}
	return s
}

// reads tells it when sectors aren't read as these blocks, just these sectors wrong.
func reads(t *testing.T, c *stripe.Coder, s []string, want []api.Block, wrong []int) {
	t.Helper()
	before := slices.Clone(s)
	f, e := c.Read(s...)
	if e != api.OK || !slices.Equal(f.Blocks, want) || !slices.Equal(f.Wrong, wrong) {
		t.Fatalf("%v: %q: %q, %v, %v; want %v", c.Geo(), s, f.Blocks, f.Wrong, e, wrong)
	}
	if !slices.Equal(s, before) {
		t.Fatalf("Read wrote into its sectors: %q", s)
	}
}

// refuses tells it when sectors are read, or anything but the error is told.
func refuses(t *testing.T, c *stripe.Coder, s []string, want api.Errno) {
	t.Helper()
	if f, e := c.Read(s...); e != want || f.Blocks != nil || f.Wrong != nil {
		t.Fatalf("%v: %q: %v, %v; want %v", c.Geo(), s, f, e, want)
	}
}

// subsets calls f with each choice of at most so many numbers below n.
func subsets(n, size int, f func([]int)) {
	var from func(l []int, first int)
	from = func(l []int, first int) {
		f(slices.Clone(l))
		for i := first; i < n && len(l) < size; i++ {
			from(append(slices.Clone(l), i), i+1)
		}
	}
	from(nil, 0)
}

// count is the numbers from 0 on.
func count(n int) []int {
	var l []int
	for i := range n {
		l = append(l, i)
	}
	return l
}

// far are numbers that are far from all that there is.
func far() []int {
	return []int{math.MinInt, math.MinInt + 1, -1 << 32, -1, 64, 255, 256, 1 << 31, 1 << 32, 1<<32 + 1, math.MaxInt - 1, math.MaxInt}
}

// P11.1: the chapter's example, for each two sectors.
func TestExample(t *testing.T) {
	c := coder(t, 2, 2)
	r := chance(1)
	data := r.blocks(2)
	s := encoded(t, c, data)
	if len(s) != 4 {
		t.Fatal(len(s))
	}
	subsets(4, 2, func(which []int) {
		f, e := c.Read(turned(s, which, func(string) string { return strings.Repeat("\xff", 64) })...)
		if e != api.OK || len(f.Blocks) != 4 || !slices.Equal(f.Blocks[:2], data) || !slices.Equal(f.Wrong, which) {
			t.Error(which, f, e)
		}
	})
}

// P11.1: New makes a coder of each geometry that is right, and of no other; it tells its geometry.
func TestNew(t *testing.T) {
	try := func(g geo.Geo, right bool) {
		t.Helper()
		c, e := stripe.New(g)
		if !right {
			if c != nil || e != api.ErrArg {
				t.Fatal(g, c, e)
			}
			return
		}
		if c == nil || e != api.OK || c.Geo() != g {
			t.Fatal(g, c, e)
		}
	}
	for data := -2; data <= 10; data++ {
		for parity := -2; parity <= 8; parity++ {
			for stripes := -2; stripes <= 10; stripes++ {
				right := 1 <= data && data <= 8 && 2 <= parity && parity <= 6 && 1 <= stripes && stripes <= 8
				try(geo.Geo{Data: data, Parity: parity, Stripes: stripes}, right)
			}
		}
	}
	for _, n := range far() {
		try(geo.Geo{Data: n, Parity: 2, Stripes: 2}, false)
		try(geo.Geo{Data: 2, Parity: n, Stripes: 2}, false)
		try(geo.Geo{Data: 2, Parity: 2, Stripes: n}, false)
	}
}

// P11.1: what sums is the sum of layer 2, by which the sectors are sealed.
func TestSums(t *testing.T) {
	c := coder(t, 3, 2)
	if n := c.Sums().Sum("123456789"); n != 0xCBF43926 {
		t.Errorf("%x", n)
	}
	for i, x := range encoded(t, c, []api.Block{{'a'}, {'b'}, {'c'}}) {
		if text, e := c.Sums().Open(x); text != x[:60] || e != api.OK {
			t.Error(i, text, e)
		}
	}
}

// P11.1: a stripe that is written out: the word 1, 2 has the parity 1, 2.
func TestEncodeWritten(t *testing.T) {
	one := strings.Repeat("\x01", 60) + "\x6e\x02\x6a\x97"
	two := strings.Repeat("\x02", 60) + "\xd0\x33\x4e\x36"
	nought := strings.Repeat("\x00", 60) + "\x04\x12\x89\x08"
	c := coder(t, 2, 2)
	if s := encoded(t, c, []api.Block{repeated(1), repeated(2)}); !slices.Equal(s, []string{one, two, one, two}) {
		t.Errorf("%q", s)
	}
	if s := encoded(t, c, []api.Block{{}, {}}); !slices.Equal(s, []string{nought, nought, nought, nought}) {
		t.Errorf("%q", s)
	}
}

// P11.1: the sectors are those of the data blocks, in order, and of parity behind them: at each place the blocks' bytes are a codeword.
func TestEncode(t *testing.T) {
	r := chance(2)
	each(t, func(c *stripe.Coder, data, parity int) {
		lists := [][]api.Block{make([]api.Block, data), slices.Repeat([]api.Block{repeated(255)}, data)}
		for range 10 {
			lists = append(lists, r.blocks(data))
		}
		for i := range data { // one byte alone
			for at := range 60 {
				l := make([]api.Block, data)
				l[i][at] = r.other()
				lists = append(lists, l)
			}
		}
		for _, l := range lists {
			s := encoded(t, c, l)
			all := blocksOf(s)
			if !slices.Equal(all[:data], l) || !slices.Equal(s, allSealed(all)) || !allCodewords(all, parity) {
				t.Fatalf("%v: %q encoded as %q", c.Geo(), l, s)
			}
		}
	})
}

// P11.1: how many stripes a slot has changes no stripe.
func TestStripes(t *testing.T) {
	r := chance(3)
	data := r.blocks(4)
	want := encoded(t, coder(t, 4, 3), data)
	for stripes := 2; stripes <= 8; stripes++ {
		c, e := stripe.New(geo.Geo{Data: 4, Parity: 3, Stripes: stripes})
		if e != api.OK {
			t.Fatal(e)
		}
		if s := encoded(t, c, data); !slices.Equal(s, want) {
			t.Errorf("%d: %q", stripes, s)
		}
		reads(t, c, want, blocksOf(want), nil)
	}
}

// P11.1: only as many blocks as there are data sectors are encoded.
func TestEncodeWrong(t *testing.T) {
	each(t, func(c *stripe.Coder, data, parity int) {
		for n := range 70 {
			if n == data {
				continue
			}
			if s, e := c.Encode(make([]api.Block, n)...); s != nil || e != api.ErrArg {
				t.Fatal(data, parity, n, s, e)
			}
		}
		if s, e := c.Encode(); s != nil || e != api.ErrArg {
			t.Fatal(data, parity, s, e)
		}
	})
}

// P11.1: only as many sectors as a stripe has are read, whatever is in them.
func TestReadCount(t *testing.T) {
	r := chance(4)
	each(t, func(c *stripe.Coder, data, parity int) {
		s := encoded(t, c, r.blocks(data))
		for n := range s {
			refuses(t, c, s[:n], api.ErrArg)
			refuses(t, c, s[n+1:], api.ErrArg)
		}
		refuses(t, c, nil, api.ErrArg)
		refuses(t, c, append(slices.Clone(s), s[0]), api.ErrArg)
		refuses(t, c, append(slices.Clone(s), ""), api.ErrArg)
		refuses(t, c, slices.Concat(s, s), api.ErrArg)
		refuses(t, c, make([]string, 300), api.ErrArg)
	})
}

// P11.1: stripes that are written out, all of whose tags are right: with one data block and two parity ones the words are 1, 3, 2 and what it is multiplied to.
func TestReadWritten(t *testing.T) {
	c := coder(t, 1, 2)
	// None of the words differs from 1, 1, 1 in just one place.
	refuses(t, c, allSealed([]api.Block{repeated(1), repeated(1), repeated(1)}), api.ErrBad)
	want := []api.Block{repeated(1), repeated(3), repeated(2)}
	for i := range want {
		seen := slices.Clone(want)
		seen[i] = repeated(7)
		reads(t, c, allSealed(seen), want, []int{i})
	}
	reads(t, c, allSealed(make([]api.Block, 3)), make([]api.Block, 3), nil)
}

// P11.2: as many sectors as there are parity ones may be turned, if their tags tell; just they are wrong.
func TestReadTold(t *testing.T) {
	r := chance(5)
	each(t, func(c *stripe.Coder, data, parity int) {
		s := encoded(t, c, r.blocks(data))
		want := blocksOf(s)
		try := func(which []int) { reads(t, c, turned(s, which, r.told), want, which) }
		if data+parity <= 9 {
			subsets(data+parity, parity, try)
			return
		}
		for range 60 {
			try(r.some(r.below(parity+1), data+parity))
			try(r.some(parity, data+parity))
		}
	})
}

// P11.2: half as many sectors, rounded down, may be turned in any way at all; just they are wrong.
func TestReadAnyhow(t *testing.T) {
	r := chance(6)
	each(t, func(c *stripe.Coder, data, parity int) {
		s := encoded(t, c, r.blocks(data))
		want := blocksOf(s)
		subsets(data+parity, parity/2, func(which []int) {
			reads(t, c, turned(s, which, r.untold), want, which)
			reads(t, c, turned(s, which, r.anyhow), want, which)
		})
	})
}

// P11.2: so may half of the sectors be exchanged for others of right tags: of another stripe, of the same one, and of blocks that are all alike.
func TestReadExchanged(t *testing.T) {
	r := chance(7)
	each(t, func(c *stripe.Coder, data, parity int) {
		s, others := encoded(t, c, r.blocks(data)), encoded(t, c, r.blocks(data))
		want := blocksOf(s)
		for range 30 {
			which := r.some(parity/2, data+parity)
			x, y, z := slices.Clone(s), slices.Clone(s), slices.Clone(s)
			for _, i := range which {
				x[i], y[i], z[i] = others[i], s[(i+1)%len(s)], sealed(repeated(255))
			}
			reads(t, c, x, want, which)
			reads(t, c, y, want, which)
			reads(t, c, z, want, which)
		}
	})
}

// P11.1: some sectors whose tags tell, and others whose tags don't, are mended as long as the first and twice the others aren't more than there are parity ones.
func TestReadMixed(t *testing.T) {
	r := chance(8)
	each(t, func(c *stripe.Coder, data, parity int) {
		s := encoded(t, c, r.blocks(data))
		want := blocksOf(s)
		for told := 0; told <= parity; told++ {
			for untold := 0; told+2*untold <= parity; untold++ {
				for range 5 {
					which := r.some(told+untold, data+parity)
					at := r.below(told + 1)
					x := turned(s, which[:at], r.told)
					x = turned(x, which[at:at+untold], r.untold)
					x = turned(x, which[at+untold:], r.told)
					reads(t, c, x, want, which)
				}
			}
		}
	})
}

// P11.1: a sector of which only the tag was turned is wrong, though its block is still what it was; it counts as any that is erased.
func TestReadTagAlone(t *testing.T) {
	r := chance(9)
	each(t, func(c *stripe.Coder, data, parity int) {
		s := encoded(t, c, r.blocks(data))
		want := blocksOf(s)
		turn := func(x string) string { return x[:60] + "\xff\xff\xff\xff" }
		for size := range data + parity + 1 {
			which := r.some(size, data+parity)
			if size <= parity {
				reads(t, c, turned(s, which, turn), want, which)
			} else {
				refuses(t, c, turned(s, which, turn), api.ErrBad)
			}
		}
	})
}

// P11.1: each place is mended by itself: so all sectors may be turned, each at places of its own, though their tags don't tell.
func TestReadPlaces(t *testing.T) {
	r := chance(10)
	each(t, func(c *stripe.Coder, data, parity int) {
		s := encoded(t, c, r.blocks(data))
		want := blocksOf(s)
		seen := slices.Clone(want)
		n := len(seen)
		for at := range 60 {
			for j := range parity / 2 {
				seen[(at*(parity/2)+j)%n][at] ^= r.other()
			}
		}
		reads(t, c, allSealed(seen), want, count(n))
	})
}

// P11.1: where more sectors' tags tell than there are parity ones it is ErrBad, even of noughts, and of sectors that have nothing wrong but their tags.
func TestReadTooManyTold(t *testing.T) {
	r := chance(11)
	each(t, func(c *stripe.Coder, data, parity int) {
		for _, l := range [][]api.Block{r.blocks(data), make([]api.Block, data)} {
			s := encoded(t, c, l)
			for size := parity + 1; size <= data+parity; size++ {
				for range 4 {
					refuses(t, c, turned(s, r.some(size, data+parity), r.told), api.ErrBad)
				}
			}
			refuses(t, c, make([]string, data+parity), api.ErrBad)
			refuses(t, c, slices.Repeat([]string{strings.Repeat("\xff", 64)}, data+parity), api.ErrBad)
		}
	})
}

// P11.1: where one sector too many is turned in a way that tags don't tell it is ErrBad, though that is so at one place alone. (An odd rest of parity is what makes sure of that: then no other codeword is near enough.)
func TestReadTooManyUntold(t *testing.T) {
	r := chance(12)
	each(t, func(c *stripe.Coder, data, parity int) {
		s := encoded(t, c, r.blocks(data))
		for told := range parity {
			if (parity-told)%2 == 0 {
				continue
			}
			untold := (parity - told + 1) / 2
			for at := range 60 {
				which := r.some(told+untold, data+parity)
				x := turned(s, which[:told], r.told)
				x = turned(x, which[told:], func(sector string) string {
					b := blockOf(sector)
					b[at] ^= r.other()
					return sealed(b)
				})
				refuses(t, c, x, api.ErrBad)
			}
		}
	})
}

// P11.1: where all parity is spent on sectors whose tags tell, the others are taken as they are, though they are of unlike stripes.
func TestReadSpent(t *testing.T) {
	r := chance(13)
	each(t, func(c *stripe.Coder, data, parity int) {
		for range 10 {
			seen := r.blocks(data + parity)
			which := r.some(parity, data+parity)
			f, e := c.Read(turned(allSealed(seen), which, r.told)...)
			if e != api.OK || !slices.Equal(f.Wrong, which) || len(f.Blocks) != data+parity || !allCodewords(f.Blocks, parity) {
				t.Fatal(c.Geo(), which, f, e)
			}
			for i, b := range f.Blocks {
				if !slices.Contains(which, i) && b != seen[i] {
					t.Fatal(c.Geo(), which, i, b)
				}
			}
		}
	})
}

// codewords are all words of one or two data bytes: all multiples of the polynomial that is 0 where words have to be.
func codewords(data, parity int) [][]byte {
	least := []byte{1}
	for _, x := range powers[:parity] {
		next := append(slices.Clone(least), 0)
		for i, b := range least {
			next[i+1] ^= products[b][x]
		}
		least = next
	}
	var l [][]byte
	for n := range 1 << (8 * data) {
		w := make([]byte, data+parity)
		for i := range data {
			for j, b := range least {
				w[i+j] ^= products[b][byte(n>>(8*i))]
			}
		}
		l = append(l, w)
	}
	return l
}

// sought is the mended word, sought among all; nil if there is none.
func sought(words [][]byte, parity int, word []byte, erased []int) []byte {
	for _, w := range words {
		apart := 0
		for i := range w {
			if w[i] != word[i] && !slices.Contains(erased, i) {
				apart++
			}
		}
		if len(erased) <= parity && apart <= (parity-len(erased))/2 {
			return w
		}
	}
	return nil
}

// read is what a stripe is read as, by seeking each place's word among all; false if it can't be.
func read(words [][]byte, parity int, s []string) (stripe.Found, bool) {
	seen := blocksOf(s)
	var erased []int
	for i, x := range s {
		if x != sealed(seen[i]) {
			erased = append(erased, i)
		}
	}
	f := stripe.Found{Blocks: make([]api.Block, len(s))}
	for at := range 60 {
		w := sought(words, parity, column(seen, at), erased)
		if w == nil {
			return stripe.Found{}, false
		}
		for i, b := range w {
			f.Blocks[i][at] = b
		}
	}
	for i, x := range s {
		if x != sealed(f.Blocks[i]) {
			f.Wrong = append(f.Wrong, i)
		}
	}
	return f, true
}

// P11.1: stripes that are turned within and beyond what is promised are read as if each place's word were sought among all words.
func TestReadSought(t *testing.T) {
	r := chance(14)
	mended, bad := 0, 0
	for _, size := range [][3]int{{1, 2, 150}, {1, 3, 150}, {1, 4, 150}, {1, 5, 150}, {1, 6, 150}, {2, 2, 6}, {2, 3, 6}, {2, 4, 6}} {
		data, parity := size[0], size[1]
		c := coder(t, data, parity)
		words := codewords(data, parity)
		for range size[2] {
			seen := blocksOf(encoded(t, c, r.blocks(data)))
			for range r.below(2 * parity) {
				seen[r.below(len(seen))][r.below(60)] ^= r.other()
			}
			if r.below(4) == 0 { // all places of some sectors
				for _, i := range r.some(r.below(parity), len(seen)) {
					seen[i] = r.block()
				}
			}
			s := turned(allSealed(seen), r.some(r.below(parity+1)*r.below(2), len(seen)), r.told)
			f, ok := read(words, parity, s)
			if ok {
				mended++
				reads(t, c, s, f.Blocks, f.Wrong)
			} else {
				bad++
				refuses(t, c, s, api.ErrBad)
			}
		}
	}
	if mended < 100 || bad < 100 {
		t.Error("the test has asked for too little", mended, bad)
	}
}

// P11.1: what is updated is what would have been encoded; others are that block and all parity, if it is another one, else none.
func TestUpdate(t *testing.T) {
	r := chance(15)
	each(t, func(c *stripe.Coder, data, parity int) {
		for at := range data {
			l := r.blocks(data)
			old := blocksOf(encoded(t, c, l))
			one := l[at]
			one[r.below(60)] ^= 1 << r.below(8)
			for _, b := range []api.Block{r.block(), one, {}, repeated(255), l[at]} {
				var which []int
				if b != l[at] {
					which = append([]int{at}, count(data + parity)[data:]...)
				}
				next := slices.Clone(l)
				next[at] = b
				want := blocksOf(encoded(t, c, next))
				got, others, e := c.Update(old, at, b)
				if e != api.OK || !slices.Equal(got, want) || !slices.Equal(others, which) {
					t.Fatal(c.Geo(), at, got, others, e)
				}
			}
		}
	})
}

// P11.1: of blocks that are no stripe's the parity is turned as much as a stripe's would be, and no other block is touched.
func TestUpdateNoStripe(t *testing.T) {
	r := chance(16)
	each(t, func(c *stripe.Coder, data, parity int) {
		for at := range data {
			l := r.blocks(data + parity)
			one := l[at]
			one[r.below(60)] ^= r.other()
			for _, b := range []api.Block{r.block(), one, l[at]} {
				got, others, e := c.Update(l, at, b)
				if e != api.OK || len(got) != len(l) || got[at] != b {
					t.Fatal(c.Geo(), at, got, others, e)
				}
				turn := slices.Clone(got)
				var which []int
				for i := range turn {
					for k := range turn[i] {
						turn[i][k] ^= l[i][k]
					}
					if i != at && i < data && got[i] != l[i] {
						t.Fatal(c.Geo(), at, i, got)
					}
					if turn[i] != (api.Block{}) {
						which = append(which, i)
					}
				}
				if !allCodewords(turn, parity) || !slices.Equal(others, which) {
					t.Fatal(c.Geo(), at, turn, others)
				}
				if (b != l[at]) != slices.Contains(others, data) {
					t.Fatal(c.Geo(), at, others)
				}
			}
		}
	})
}

// P11.1: an update, written out.
func TestUpdateWritten(t *testing.T) {
	c := coder(t, 2, 2)
	// The word 0, 3 has the parity 5, 6.
	got, others, e := c.Update(make([]api.Block, 4), 1, repeated(3))
	if e != api.OK || !slices.Equal(got, []api.Block{{}, repeated(3), repeated(5), repeated(6)}) || !slices.Equal(others, []int{1, 2, 3}) {
		t.Error(got, others, e)
	}
	got, others, e = c.Update(got, 1, repeated(3))
	if e != api.OK || !slices.Equal(got, []api.Block{{}, repeated(3), repeated(5), repeated(6)}) || len(others) != 0 {
		t.Error(got, others, e)
	}
}

// P11.1: blocks that aren't as many as a stripe has, and data blocks that there aren't, are refused.
func TestUpdateWrong(t *testing.T) {
	r := chance(17)
	each(t, func(c *stripe.Coder, data, parity int) {
		try := func(l []api.Block, at int) {
			t.Helper()
			if got, others, e := c.Update(l, at, r.block()); got != nil || others != nil || e != api.ErrArg {
				t.Fatal(c.Geo(), len(l), at, got, others, e)
			}
		}
		for n := range 30 {
			if n != data+parity {
				try(r.blocks(n), 0)
				try(r.blocks(n), n)
			}
		}
		try(nil, 0)
		l := r.blocks(data + parity)
		for at := data; at < 30; at++ {
			try(l, at)
		}
		for _, at := range far() {
			try(l, at)
		}
	})
}

// P11.1: a nil coder, and one that New didn't make, refuse all, and have neither geometry nor sums.
func TestNil(t *testing.T) {
	r := chance(18)
	for _, c := range []*stripe.Coder{nil, {}} {
		if c.Geo() != (geo.Geo{}) || c.Sums() != nil {
			t.Error(c.Geo(), c.Sums())
		}
		for n := range 16 {
			l := r.blocks(n)
			if s, e := c.Encode(l...); s != nil || e != api.ErrArg {
				t.Error(n, s, e)
			}
			if f, e := c.Read(allSealed(l)...); f.Blocks != nil || f.Wrong != nil || e != api.ErrArg {
				t.Error(n, f, e)
			}
			for at := -1; at <= n; at++ {
				if got, others, e := c.Update(l, at, api.Block{}); got != nil || others != nil || e != api.ErrArg {
					t.Error(n, at, got, others, e)
				}
			}
		}
	}
}

// P11.1, rule 2 of the document: no argument is written into, not even behind its end, and no answer shares memory with one or with another answer.
func TestNothingShared(t *testing.T) {
	r := chance(19)
	c := coder(t, 3, 2)
	room := r.blocks(8)
	before := slices.Clone(room)
	s := encoded(t, c, room[:3])
	got, _, _ := c.Update(room[:5], 1, r.block())
	if !slices.Equal(room, before) {
		t.Error("an argument was written into")
	}
	kept := slices.Clone(got)
	clear(room)
	if !slices.Equal(got, kept) {
		t.Error("Update's answer is shared")
	}
	x := turned(s, []int{0, 4}, r.told)
	one, e := c.Read(x...)
	other, _ := c.Read(x...)
	if e != api.OK || len(one.Wrong) != 2 || !slices.Equal(other.Wrong, one.Wrong) {
		t.Fatal(one, other, e)
	}
	clear(one.Blocks)
	clear(one.Wrong)
	if !slices.Equal(other.Blocks, blocksOf(s)) || !slices.Equal(other.Wrong, []int{0, 4}) {
		t.Error("Read's answer is shared")
	}
	reads(t, c, x, blocksOf(s), []int{0, 4})
}
