package record_test

import (
	"hash/crc32"
	"math"
	"strings"
	"testing"

	"triptych/api"
	"triptych/crc"
	"triptych/flash"
	"triptych/record"
)

// ones is a sum of 32 ones, as no page has it.
const ones = 1<<32 - 1

// noise is n bytes from a fixed rule, unlike for unlike seeds.
func noise(n int, seed uint64) string {
	b := make([]byte, n)
	for i := range b {
		seed = seed*6364136223846793005 + 1442695040888963407
		b[i] = byte(seed >> 56)
	}
	return string(b)
}

// highFirst is a number's last n bytes, the highest first.
func highFirst(n, number int) string {
	b := make([]byte, n)
	for i := range b {
		b[n-1-i] = byte(number >> (8 * i))
	}
	return string(b)
}

// text is a record's 12 bytes ahead of the sum, put one by one.
func text(r record.Rec) string {
	return string([]byte{byte(r.Kind), byte(r.Slot)}) + highFirst(2, r.No) + highFirst(6, r.Value) + "\x00\x00"
}

// sum is the sum of bytes, by the language's library, as it is.
func sum(s string) int { return int(crc32.ChecksumIEEE([]byte(s))) }

// sealed is bytes with their sum behind them, as it stands in a page.
func sealed(s string) string {
	n := sum(s)
	if n == ones {
		n--
	}
	return s + highFirst(4, n)
}

// plain is a record's page by arithmetic of the tests' own.
func plain(r record.Rec) string { return sealed(text(r)) }

// number is the number whose bytes these are, the highest first.
func number(s string) int {
	n := 0
	for i := range len(s) {
		n = n*256 + int(s[i])
	}
	return n
}

// there is the record whose page that is by arithmetic of the tests' own.
func there(page string) (record.Rec, bool) {
	if len(page) != 16 || page[0] > 127 || page[1] > 3 || page[10:12] != "\x00\x00" || sealed(page[:12]) != page {
		return record.Rec{}, false
	}
	return record.Rec{Kind: int(page[0]), Slot: int(page[1]), No: number(page[2:4]), Value: number(page[4:10])}, true
}

// with is r with the value by which the sum of its 12 bytes is want: each bit of the value turns the same bits of the sum, whatever the others are, so those to be set are found by elimination.
func with(r record.Rec, want int) record.Rec {
	r.Value = 0
	none := sum(text(r))
	var lead, made [32]int
	for bit := range 48 {
		r.Value = 1 << bit
		turns, by := sum(text(r))^none, r.Value
		for i := range lead {
			if turns>>i&1 == 0 {
				continue
			}
			if lead[i] == 0 {
				lead[i], made[i] = turns, by
				break
			}
			turns, by = turns^lead[i], by^made[i]
		}
	}
	r.Value = 0
	left := none ^ want
	for i := range lead {
		if left>>i&1 == 1 {
			left, r.Value = left^lead[i], r.Value^made[i]
		}
	}
	return r
}

// edgy are records whose sum is that, or near to it, of 32 ones.
func edgy() []record.Rec {
	var l []record.Rec
	for i := range 40 {
		r := record.Rec{Kind: (3 * i) % 128, Slot: i % 4, No: (257 * i) % 65536}
		l = append(l, with(r, ones), with(r, ones-1), with(r, ones-2), with(r, ones^1<<31), with(r, 0))
	}
	return append(l, with(record.Rec{Kind: 127, Slot: 3, No: 65535}, ones), with(record.Rec{}, ones), with(record.Rec{}, ones-1))
}

// records are records that may be: each number at its edges and between, alone and beside others.
func records() []record.Rec {
	l := []record.Rec{{}, {Kind: 127, Slot: 3, No: 65535, Value: 1<<48 - 1}, {Kind: 5, Slot: 1, No: 0x1234, Value: 0x123456789abc}}
	for k := range 128 {
		l = append(l, record.Rec{Kind: k}, record.Rec{Kind: k, Slot: k % 4, No: 500 * k, Value: k << 40})
	}
	for s := range 4 {
		l = append(l, record.Rec{Slot: s}, record.Rec{Kind: 127, Slot: s, No: 9, Value: 77})
	}
	for i := range 16 {
		l = append(l, record.Rec{No: 1 << i}, record.Rec{Kind: 3, No: 65535 - i, Value: 4})
	}
	for i := range 48 {
		l = append(l, record.Rec{Value: 1 << i}, record.Rec{Slot: 2, Value: 1<<48 - 1<<i})
	}
	for i := range 300 {
		s := noise(10, uint64(i))
		l = append(l, record.Rec{Kind: int(s[0]) % 128, Slot: int(s[1]) % 4, No: number(s[2:4]), Value: number(s[4:])})
	}
	return append(l, edgy()...)
}

// far are numbers that nothing of a record may be.
func far() []int {
	return []int{
		math.MinInt, math.MinInt + 1, -1 << 56, -1 << 48, -1 << 32, -1 << 16, -65536, -256, -128, -4, -2, -1,
		1 << 48, 1<<48 + 1, 1<<56 - 1, 1 << 56, 1<<56 + 1, 1 << 62, math.MaxInt - 1, math.MaxInt,
	}
}

// wrong are records that may not be: one number of each is outside its range, or all of them are.
func wrong() []record.Rec {
	var l []record.Rec
	whole := record.Rec{Kind: 5, Slot: 1, No: 7, Value: 99}
	for _, r := range []record.Rec{{}, whole, {Kind: 127, Slot: 3, No: 65535, Value: 1<<48 - 1}} {
		for _, n := range append(far(), 128, 129, 255, 256, 257, 65536, 1<<32) {
			x := r
			x.Kind = n
			l = append(l, x)
		}
		for _, n := range append(far(), 4, 5, 7, 127, 255, 256, 257, 65536, 1<<32) {
			x := r
			x.Slot = n
			l = append(l, x)
		}
		for _, n := range append(far(), 65536, 65537, 1<<24, 1<<32) {
			x := r
			x.No = n
			l = append(l, x)
		}
		for _, n := range far() {
			x := r
			x.Value = n
			l = append(l, x)
		}
	}
	return append(l, record.Rec{Kind: -1, Slot: -1, No: -1, Value: -1}, record.Rec{Kind: 128, Slot: 4, No: 65536, Value: 1 << 48})
}

// P14.1: pages that are known, written out; one of them has a sum of 32 ones, which stands as one less.
func TestKnown(t *testing.T) {
	c := crc.New()
	for _, k := range []struct {
		r    record.Rec
		page string
	}{
		{record.Rec{}, strings.Repeat("\x00", 12) + "\x7b\xd5\xc6\x6f"},
		{record.Rec{Kind: 5, Slot: 1, No: 0x1234, Value: 0x123456789abc}, "\x05\x01\x12\x34\x12\x34\x56\x78\x9a\xbc\x00\x00\x1d\x00\x5f\xf3"},
		{record.Rec{Kind: 127, Slot: 3, No: 65535, Value: 1<<48 - 1}, "\x7f\x03" + strings.Repeat("\xff", 8) + "\x00\x00\xe6\xa1\x77\x3e"},
		{record.Rec{Value: 0x5c5e3d4e}, "\x00\x00\x00\x00\x00\x00\x5c\x5e\x3d\x4e\x00\x00\xff\xff\xff\xfe"},
	} {
		if s, e := record.Put(c, k.r); s != k.page || e != api.OK {
			t.Errorf("%v: %q %v, want %q", k.r, s, e, k.page)
		}
		if r, ok := record.Get(c, k.page); r != k.r || !ok {
			t.Errorf("%q: %v %v, want %v", k.page, r, ok, k.r)
		}
	}
}

// P14.1: Right tells whether all numbers are in their ranges.
func TestRight(t *testing.T) {
	for _, r := range records() {
		if !record.Right(r) {
			t.Error(r)
		}
	}
	for _, r := range wrong() {
		if record.Right(r) {
			t.Error(r)
		}
	}
}

// P14.1: Put is the numbers, two noughts and the sum; ErrArg of a record that isn't right.
func TestPut(t *testing.T) {
	c := crc.New()
	for _, r := range records() {
		if s, e := record.Put(c, r); s != plain(r) || e != api.OK {
			t.Errorf("%v: %q %v, want %q", r, s, e, plain(r))
		}
	}
	for _, r := range wrong() {
		if s, e := record.Put(c, r); s != "" || e != api.ErrArg {
			t.Errorf("%v: %q %v", r, s, e)
		}
	}
}

// P14.1: Get is the record whose page Put tells, and Put of it is that page again.
func TestGet(t *testing.T) {
	c := crc.New()
	for _, r := range records() {
		g, ok := record.Get(c, plain(r))
		if g != r || !ok {
			t.Errorf("%v: %v %v", r, g, ok)
		}
		if s, e := record.Put(c, g); s != plain(r) || e != api.OK {
			t.Errorf("%v: %q %v", r, s, e)
		}
	}
}

// P14.1: without what sums there is no page, and no record, whatever else is right or wrong.
func TestNil(t *testing.T) {
	for _, r := range append(records(), wrong()...) {
		if s, e := record.Put(nil, r); s != "" || e != api.ErrArg {
			t.Errorf("%v: %q %v", r, s, e)
		}
		if g, ok := record.Get(nil, plain(r)); g != (record.Rec{}) || ok {
			t.Errorf("%v: %v %v", r, g, ok)
		}
	}
	// A summer that is nil has the sum 0 of all, so pages with noughts there are asked too.
	for _, s := range []string{"", strings.Repeat("\x00", 16), strings.Repeat("\xff", 16), "\x05" + strings.Repeat("\x00", 15)} {
		if g, ok := record.Get(nil, s); g != (record.Rec{}) || ok {
			t.Errorf("%q: %v %v", s, g, ok)
		}
	}
}

// P14.1: a sum of 32 ones stands as one less, and as nothing else; one that is one less by itself stands as it is.
func TestOnes(t *testing.T) {
	c := crc.New()
	met := 0
	for _, r := range edgy() {
		s, e := record.Put(c, r)
		if e != api.OK || len(s) != 16 || s[12:] == "\xff\xff\xff\xff" {
			t.Errorf("%v: %q %v", r, s, e)
		}
		if g, ok := record.Get(c, text(r)+"\xff\xff\xff\xff"); g != (record.Rec{}) || ok {
			t.Errorf("%v behind 32 ones: %v %v", r, g, ok)
		}
		n := sum(text(r))
		if n < ones-1 {
			continue
		}
		met++
		if s != text(r)+"\xff\xff\xff\xfe" {
			t.Errorf("%v: %q", r, s)
		}
		if g, ok := record.Get(c, s); g != r || !ok {
			t.Errorf("%v: %v %v", r, g, ok)
		}
		for _, end := range []string{"\xff\xff\xff\xfd", "\xfe\xff\xff\xff", "\x7f\xff\xff\xff", "\x00\x00\x00\x00"} {
			if g, ok := record.Get(c, text(r)+end); g != (record.Rec{}) || ok {
				t.Errorf("%v, end %q: %v %v", r, end, g, ok)
			}
		}
	}
	if met != 83 {
		t.Error("records with such sums:", met)
	}
}

// P14.1: each other value of each byte: the sum tells all of them.
func TestTurned(t *testing.T) {
	c := crc.New()
	l := []record.Rec{{}, {Kind: 5, Slot: 1, No: 0x1234, Value: 0x123456789abc}, {Kind: 127, Slot: 3, No: 65535, Value: 1<<48 - 1}, with(record.Rec{Kind: 9}, ones), with(record.Rec{Kind: 9}, ones-1)}
	for _, r := range l {
		whole := plain(r)
		for at := range len(whole) {
			for x := 1; x < 256; x++ {
				b := []byte(whole)
				b[at] ^= byte(x)
				if g, ok := record.Get(c, string(b)); g != (record.Rec{}) || ok {
					t.Fatalf("%v, byte %d against %d: %v %v", r, at, x, g, ok)
				}
			}
		}
	}
}

// P14.1: bytes with their right sum that are outside what a record may have; each other value of each byte ahead of the sum.
func TestSealed(t *testing.T) {
	c := crc.New()
	for _, r := range []record.Rec{{}, {Kind: 5, Slot: 1, No: 0x1234, Value: 0x123456789abc}, {Kind: 127, Slot: 3, No: 65535, Value: 1<<48 - 1}} {
		for at := range 12 {
			for x := 1; x < 256; x++ {
				b := []byte(text(r))
				b[at] ^= byte(x)
				s := sealed(string(b))
				right := at == 0 && b[0] < 128 || at == 1 && b[1] < 4 || at >= 2 && at < 10
				want, ok := there(s)
				if ok != right {
					t.Fatalf("the test's own: %q %v", s, ok)
				}
				if g, ok := record.Get(c, s); g != want || ok != right {
					t.Errorf("%q: %v %v, want %v %v", s, g, ok, want, right)
				}
			}
		}
	}
}

// P14.1: a page has 16 bytes: none that are fewer or more are one, also where their sum is right.
func TestLength(t *testing.T) {
	c := crc.New()
	for _, r := range append(edgy(), record.Rec{}, record.Rec{Kind: 5, Slot: 1, No: 7, Value: 99}) {
		s := plain(r)
		l := []string{s + "\x00", s + "\xff", "\x00" + s, s + s, s + s[12:], sealed(text(r) + "\x00"), sealed(text(r)[:11]), sealed(sealed(text(r))), text(r)}
		for n := range 16 {
			l = append(l, s[:n], s[16-n:])
		}
		for _, x := range l {
			if g, ok := record.Get(c, x); g != (record.Rec{}) || ok {
				t.Errorf("%v, %q: %v %v", r, x, g, ok)
			}
		}
	}
}

// P14.1: bytes that are no record's page: blank ones, noughts, sums that stand otherwise, noise.
func TestNone(t *testing.T) {
	c := crc.New()
	r := record.Rec{Kind: 5, Slot: 1, No: 0x1234, Value: 0x123456789abc}
	n, s := sum(text(r)), text(r)
	l := []string{
		strings.Repeat("\xff", 16), strings.Repeat("\x00", 16), strings.Repeat("\x55", 16),
		s + highFirst(4, n-1), s + highFirst(4, n+1), s + highFirst(4, ^n), s + "\xff\xff\xff\xfe", s + "\xff\xff\xff\xff",
		s + string([]byte{byte(n), byte(n >> 8), byte(n >> 16), byte(n >> 24)}), // the lowest byte first
		highFirst(4, n) + s,                   // the sum ahead
		s[:10] + highFirst(4, n) + "\x00\x00", // the noughts behind
		s[:10] + highFirst(4, sum(s[:10])) + "\x00\x00",
		s[:10] + "\x00\x00" + highFirst(4, sum(s[:10])), // the noughts not summed
	}
	for i := range 2000 {
		x := noise(16, uint64(i))
		l = append(l, x, string([]byte{x[0] & 127, x[1] & 3})+x[2:10]+"\x00\x00"+x[12:])
	}
	for _, x := range l {
		if g, ok := record.Get(c, x); g != (record.Rec{}) || ok {
			t.Errorf("%q: %v %v", x, g, ok)
		}
	}
}

// P14.1: a summer that New didn't make, or a copy of one, sums as any.
func TestNotMadeByNew(t *testing.T) {
	made := *crc.New()
	for _, c := range []*crc.Crc{{}, new(crc.Crc), &made} {
		for _, r := range edgy() {
			if s, e := record.Put(c, r); s != plain(r) || e != api.OK {
				t.Errorf("%v: %q %v", r, s, e)
			}
			if g, ok := record.Get(c, plain(r)); g != r || !ok {
				t.Errorf("%v: %v %v", r, g, ok)
			}
		}
	}
}

// P14.1: Blank of 16 bytes that are all 255, and of nothing else.
func TestBlank(t *testing.T) {
	for n := range 130 {
		if record.Blank(strings.Repeat("\xff", n)) != (n == 16) {
			t.Error(n)
		}
		if record.Blank(strings.Repeat("\x00", n)) {
			t.Error(n, "noughts")
		}
	}
	for at := range 16 {
		for x := range 255 {
			b := []byte(strings.Repeat("\xff", 16))
			b[at] = byte(x)
			if record.Blank(string(b)) {
				t.Error(at, x)
			}
		}
	}
	for _, r := range records() {
		if record.Blank(plain(r)) {
			t.Error(r)
		}
	}
	// Letters of more than a byte count by their bytes.
	for _, s := range []string{strings.Repeat("\u00ff", 16), strings.Repeat("\u00ff", 8), strings.Repeat("\ufffd", 16)} {
		if record.Blank(s) {
			t.Errorf("%q", s)
		}
	}
}

// numbers are a version's numbers: the edges, and one of which each byte tells where it lies.
func numbers() []int { return []int{0, 1, 2, 255, 256, 0x1234, 65534, 65535} }

// P14.1: a version as a value, and the other way round: all edges beside one another, and the chapter's example.
func TestVersion(t *testing.T) {
	if n, ok := record.Number(api.Version{1, 2, 3}); n != 4295098371 || !ok {
		t.Error(n, ok)
	}
	for _, a := range numbers() {
		for _, b := range numbers() {
			for _, c := range numbers() {
				v, want := api.Version{a, b, c}, a*65536*65536+b*65536+c
				if n, ok := record.Number(v); n != want || !ok {
					t.Errorf("%v: %d %v, want %d", v, n, ok, want)
				}
				if got, ok := record.Version(want); got != v || !ok {
					t.Errorf("%d: %v %v, want %v", want, got, ok, v)
				}
			}
		}
	}
}

// P14.1: each number of 48 bits is one version's, and its value may stand in a record.
func TestVersionOfAll(t *testing.T) {
	l := []int{0, 1, 65535, 65536, 1<<32 - 1, 1 << 32, 1<<48 - 2, 1<<48 - 1}
	for i := range 2000 {
		l = append(l, number(noise(6, uint64(i))))
	}
	for i := range 48 {
		l = append(l, 1<<i, 1<<48-1<<i)
	}
	for _, n := range l {
		v, ok := record.Version(n)
		if want := (api.Version{n / 65536 / 65536, n / 65536 % 65536, n % 65536}); v != want || !ok {
			t.Errorf("%d: %v %v, want %v", n, v, ok, want)
		}
		if back, ok := record.Number(v); back != n || !ok {
			t.Errorf("%d: %d %v", n, back, ok)
		}
		if !record.Right(record.Rec{Value: n}) {
			t.Error(n)
		}
	}
}

// P14.1: numbers that are no version's, and versions that have no number.
func TestNoVersion(t *testing.T) {
	for _, n := range far() {
		if v, ok := record.Version(n); v != (api.Version{}) || ok {
			t.Errorf("%d: %v %v", n, v, ok)
		}
	}
	for _, n := range append(far(), 65536, 65537, 1<<24, 1<<32, 1<<32+1) {
		for at := range 3 {
			for _, v := range []api.Version{{}, {1, 2, 3}, {65535, 65535, 65535}} {
				v[at] = n
				if x, ok := record.Number(v); x != 0 || ok {
					t.Errorf("%v: %d %v", v, x, ok)
				}
			}
		}
	}
	// These numbers, taken together, would be those of a version.
	for _, v := range []api.Version{{1, -1, 0}, {0, 1, -1}, {-1, 65536, 0}, {0, 65536, 0}, {1, 0, 65536}} {
		if x, ok := record.Number(v); x != 0 || ok {
			t.Errorf("%v: %d %v", v, x, ok)
		}
	}
}

// torn is a page that was programmed on a blank one of a device, and torn so.
func torn(t *testing.T, page string, how flash.Torn) string {
	d, e := flash.New(1)
	if e != api.OK {
		t.Fatal(e)
	}
	d.Fuse(0, how)
	if e := d.Program(32, page); e != api.ErrDown {
		t.Fatal(e)
	}
	d.PowerOn()
	s, e := d.Read(32, 16)
	if e != api.OK {
		t.Fatal(e)
	}
	return s
}

// left asks what is left of a record's page: it is that record's just if it is its page.
func left(t *testing.T, c *crc.Crc, r record.Rec, page, s string) bool {
	g, ok := record.Get(c, s)
	want := record.Rec{}
	if s == page {
		want = r
	}
	if g != want || ok != (s == page) {
		t.Fatalf("%v, left %q: %v %v", r, s, g, ok)
	}
	return ok
}

// P14.2: wherever the device tears a page, and whatever the byte's mask is there.
func TestTorn(t *testing.T) {
	c := crc.New()
	l := []record.Rec{{}, {Kind: 5, Slot: 1, No: 7, Value: 99}, {Kind: 127, Slot: 3, No: 65535, Value: 1<<48 - 1}, {Kind: 126, Value: 1}, {Kind: 127, No: 1, Value: 1}}
	l = append(l, with(record.Rec{}, ones), with(record.Rec{}, ones-1), with(record.Rec{Kind: 127, Slot: 3, No: 65535}, ones), with(record.Rec{Kind: 7}, 0))
	for _, r := range l {
		page, e := record.Put(c, r)
		if e != api.OK {
			t.Fatal(r, e)
		}
		whole := 0
		for n := range 17 {
			for mask := range 256 {
				if left(t, c, r, page, torn(t, page, flash.Torn{Bytes: n, Mask: byte(mask)})) {
					whole++
				}
			}
		}
		if whole < 256 {
			t.Error(r, "was whole", whole, "times")
		}
		if s := torn(t, page, flash.Torn{Mask: 255}); !record.Blank(s) {
			t.Errorf("%v: nothing is done, but %q", r, s)
		}
	}
}

// P14.2: of many records, of which some sums end in ones, so that they are whole ahead of their last bytes.
func TestTornMany(t *testing.T) {
	c := crc.New()
	l := records()
	for i := range 60 {
		r := record.Rec{Kind: i, Slot: i % 4, No: i}
		l = append(l, with(r, int(noise(1, uint64(i))[0])<<24|0xffffff), with(r, 0x8000ffff+i), with(r, 255|i<<8))
	}
	early := 0
	for _, r := range l {
		page, e := record.Put(c, r)
		if e != api.OK {
			t.Fatal(r, e)
		}
		for n := range 17 {
			for _, mask := range []byte{0, 1, 15, 85, 128, 240, 254, 255} {
				if left(t, c, r, page, torn(t, page, flash.Torn{Bytes: n, Mask: mask})) && n < 15 {
					early++
				}
			}
		}
	}
	if early == 0 {
		t.Error("no page was whole ahead of its last byte")
	}
}

// P14.2: torn anywhere ahead of the sum, it is all ones, so no such bytes with a sum of ones are a page, whatever stands there.
func TestNoSum(t *testing.T) {
	c := crc.New()
	for _, r := range append(records(), edgy()...) {
		for n := range 13 {
			s := text(r)[:n] + strings.Repeat("\xff", 16-n)
			if g, ok := record.Get(c, s); g != (record.Rec{}) || ok {
				t.Errorf("%q: %v %v", s, g, ok)
			}
		}
	}
}

// P14.1: answers hang on nothing else than what is given: the same calls answer the same, in any order.
func TestNothingKept(t *testing.T) {
	c := crc.New()
	r := record.Rec{Kind: 5, Slot: 1, No: 0x1234, Value: 0x123456789abc}
	for _, other := range append(records(), wrong()...) {
		s, _ := record.Put(c, other)
		record.Get(c, s)
		record.Get(c, s+"x")
		if s, e := record.Put(c, r); s != plain(r) || e != api.OK {
			t.Fatal(s, e)
		}
		if g, ok := record.Get(c, plain(r)); g != r || !ok {
			t.Fatal(g, ok)
		}
	}
}
