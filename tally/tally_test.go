package tally_test

import (
	"fmt"
	"math"
	"strconv"
	"strings"
	"testing"

	"triptych/api"
	"triptych/flash"
	"triptych/geo"
	"triptych/tally"
)

// dice is numbers from a fixed rule.
type dice struct{ seed uint64 }

// below is a number from 0 to n - 1.
func (d *dice) below(n int) int {
	d.seed = d.seed*6364136223846793005 + 1442695040888963407
	return int(d.seed >> 33 % uint64(n))
}

// noise is n bytes from a fixed rule.
func (d *dice) noise(n int) string {
	b := make([]byte, n)
	for i := range b {
		b[i] = byte(d.below(256))
	}
	return string(b)
}

// tear is a way of being torn.
func (d *dice) tear() flash.Torn { return flash.Torn{Bytes: d.below(65), Mask: byte(d.below(256))} }

// shape is a geometry.
func shape(data, parity, stripes int) geo.Geo {
	return geo.Geo{Data: data, Parity: parity, Stripes: stripes}
}

// geos are geometries: small ones, and those at the edges.
func geos() []geo.Geo {
	return []geo.Geo{shape(1, 2, 1), shape(2, 2, 3), shape(3, 3, 2), shape(8, 2, 1), shape(1, 6, 8), shape(5, 4, 6), shape(8, 6, 8)}
}

// at is which sector a geometry's i-th tally sector is: it lies behind three slots and the log.
func at(g geo.Geo, i int) int { return 3*(g.Data+g.Parity)*g.Stripes + 4*4 + i }

// all is how many sectors a geometry has.
func all(g geo.Geo) int { return at(g, 0) + 2 }

// edges are counts: those about the ends of bytes, pages and the sector, and some between.
func edges() []int {
	return []int{0, 1, 2, 7, 8, 9, 100, 119, 120, 121, 126, 127, 128, 129, 130, 200, 254, 255, 256, 257, 383, 384, 385, 500, 510, 511, 512}
}

// packed is the bytes whose bits these noughts and ones are, the highest of the first byte first.
func packed(s string) string {
	var b []byte
	for ; s != ""; s = s[8:] {
		n, _ := strconv.ParseUint(s[:8], 2, 8)
		b = append(b, byte(n))
	}
	return string(b)
}

// unpacked is the other way round.
func unpacked(s string) string {
	var b strings.Builder
	for i := range len(s) {
		fmt.Fprintf(&b, "%08b", s[i])
	}
	return b.String()
}

// cleared is bytes of so many bits, of which the first n are 0, and all others 1.
func cleared(n, bits int) string {
	return packed(strings.Repeat("0", n) + strings.Repeat("1", bits-n))
}

// seen is a sector's count by the tests' own look at its bits, one by one.
func seen(s string) int {
	for n := range 512 {
		if s[n/8]>>(7-n%8)&1 == 1 {
			return n
		}
	}
	return 512
}

// put makes a sector these bytes, whatever it is, without an erase.
func put(d *flash.Dev, sector int, s string) {
	old := d.Dump(sector)
	var by []byte
	for i := range len(s) {
		by = append(by, s[i]^old[i])
	}
	d.Rot(sector*64, by...)
}

// blank is a device of a geometry that nothing was written to.
func blank(t *testing.T, g geo.Geo) *flash.Dev {
	t.Helper()
	d, e := flash.New(all(g))
	if e != api.OK {
		t.Fatal(g, e)
	}
	return d
}

// noisy is a device in which each sector is another one, and nothing is blank.
func noisy(t *testing.T, g geo.Geo, seed uint64) *flash.Dev {
	t.Helper()
	d := blank(t, g)
	r := dice{seed}
	for n := range d.Sectors() {
		put(d, n, r.noise(64))
	}
	return d
}

// forged is a noisy device whose tally's sectors have these counts, and no bit behind them that is cleared.
func forged(t *testing.T, g geo.Geo, one, two int) *flash.Dev {
	t.Helper()
	d := noisy(t, g, uint64(one+two))
	put(d, at(g, 0), cleared(one, 512))
	put(d, at(g, 1), cleared(two, 512))
	return d
}

// down lets a device go down by an erase of its first sector, which is none of the tally's, and leaves that one as it was.
func down(d *flash.Dev) {
	was := d.Dump(0)
	d.Fuse(0, flash.Torn{})
	d.Erase(0)
	put(d, 0, was)
}

// dump is all bytes of a device.
func dump(d *flash.Dev) string {
	var b strings.Builder
	for n := range d.Sectors() {
		b.WriteString(d.Dump(n))
	}
	return b.String()
}

// isAs asks that a device is as it was.
func isAs(t *testing.T, what string, d *flash.Dev, before string) {
	t.Helper()
	if dump(d) == before {
		return
	}
	for n := range d.Sectors() {
		if d.Dump(n) != before[64*n:][:64] {
			t.Fatalf("%s: sector %d is %q, not %q", what, n, d.Dump(n), before[64*n:][:64])
		}
	}
	t.Fatal(what, d.Sectors())
}

// is asks that a tally has that count, and is even or not.
func is(t *testing.T, what string, x *tally.Tally, count int, even bool) {
	t.Helper()
	if x == nil {
		t.Fatal(what, "no tally")
	}
	if x.Count() != count || x.Even() != even {
		t.Fatal(what, x.Count(), x.Even(), "want", count, even)
	}
}

// opened is a device's tally; it is asked that it has what the tests' own look tells, and that nothing is written.
func opened(t *testing.T, g geo.Geo, d *flash.Dev) *tally.Tally {
	t.Helper()
	before := dump(d)
	x, e := tally.Open(d, g)
	if e != api.OK {
		t.Fatal(g, e)
	}
	isAs(t, "Open", d, before)
	one, two := seen(d.Dump(at(g, 0))), seen(d.Dump(at(g, 1)))
	is(t, "Open", x, max(one, two), one == two)
	return x
}

// again lets the power come back, and opens the tally anew.
func again(t *testing.T, g geo.Geo, d *flash.Dev) *tally.Tally {
	t.Helper()
	d.PowerOn()
	return opened(t, g, d)
}

// step is a program of a page, or, without one, an erase of the sector.
type step struct {
	sector, page int
	bytes        string
}

// marking are the steps by which bit n is cleared, and those ahead of it in its page.
func marking(g geo.Geo, n int) []step {
	bytes := cleared(n%128+1, 128)
	return []step{{at(g, 0), n / 128, bytes}, {at(g, 1), n / 128, bytes}}
}

// wiping are the steps of a Reset.
func wiping(g geo.Geo) []step { return []step{{sector: at(g, 0)}, {sector: at(g, 1)}} }

// done does steps one by one, up to the first that can't be done.
func done(d *flash.Dev, l []step) api.Errno {
	for _, s := range l {
		e := api.OK
		if s.bytes == "" {
			e = d.Erase(s.sector)
		} else {
			e = d.Program(64*s.sector+16*s.page, s.bytes)
		}
		if e != api.OK {
			return e
		}
	}
	return api.OK
}

// does asks that a call does just these steps, in this order, and leaves what they leave wherever it is torn.
func does(t *testing.T, what string, d *flash.Dev, steps []step, call func(d *flash.Dev) api.Errno) {
	t.Helper()
	r := dice{uint64(len(steps))}
	for left := -1; left <= len(steps); left++ {
		torn := r.tear()
		mine, its := d.Copy(), d.Copy()
		mine.Fuse(left, torn)
		its.Fuse(left, torn)
		want, got := done(mine, steps), call(its)
		if want != got || mine.Down() != its.Down() {
			t.Fatal(what, left, want, got, mine.Down(), its.Down())
		}
		isAs(t, what, its, dump(mine))
		for n := range mine.Sectors() {
			if mine.Wear(n) != its.Wear(n) {
				t.Fatal(what, left, n, mine.Wear(n), its.Wear(n))
			}
		}
	}
}

// P16.1: the chapter's example.
func TestExample(t *testing.T) {
	g := shape(2, 2, 3)
	d := blank(t, g)
	x := opened(t, g, d)
	is(t, "blank", x, 0, true)
	if e := x.Bump(); e != api.OK {
		t.Fatal(e)
	}
	is(t, "Bump", x, 1, true)
	is(t, "Open again", opened(t, g, d), 1, true)
}

// P16.1: a tally's sectors, written out: where they lie, what they are, and that all else is blank.
func TestWritten(t *testing.T) {
	g := shape(1, 2, 1)
	d := blank(t, g)
	x := opened(t, g, d)
	for range 139 {
		if e := x.Bump(); e != api.OK {
			t.Fatal(e)
		}
	}
	want := strings.Repeat("\x00", 17) + "\x1f" + strings.Repeat("\xff", 46)
	for n := range d.Sectors() {
		s := strings.Repeat("\xff", 64)
		if n == 25 || n == 26 {
			s = want
		}
		if d.Dump(n) != s {
			t.Errorf("%d: %q", n, d.Dump(n))
		}
	}
	if tally.Most != 512 {
		t.Error(tally.Most)
	}
}

// P16.1: the count is the greater one of both sectors', whatever they are, and it is even just if they have the same.
func TestOpen(t *testing.T) {
	g := shape(1, 2, 1)
	d := blank(t, g)
	both := func(one, two int) {
		t.Helper()
		put(d, at(g, 0), cleared(one, 512))
		put(d, at(g, 1), cleared(two, 512))
		is(t, "Open", opened(t, g, d), max(one, two), one == two)
	}
	for n := range 513 {
		for _, other := range []int{0, max(0, n-1), n, min(512, n+1), 512} {
			both(n, other)
			both(other, n)
		}
	}
	for _, one := range edges() {
		for _, two := range edges() {
			both(one, two)
		}
	}
}

// P16.1: a sector's count ends at the first bit that is 1: what stands behind that doesn't matter.
func TestOpenBehind(t *testing.T) {
	g := shape(1, 2, 1)
	d := blank(t, g)
	r := dice{1}
	for n := range 512 {
		for i := range 6 {
			var l [2]string
			for k, count := range []int{n, r.below(512)} {
				behind := unpacked(r.noise(64)) // of the last two there is nothing but noughts behind
				if i > 3 {
					behind = strings.Repeat("0", 512)
				}
				l[k] = packed((strings.Repeat("0", count) + "1" + behind)[:512])
			}
			put(d, at(g, i%2), l[0])
			put(d, at(g, 1-i%2), l[1])
			if x := opened(t, g, d); x.Count() < n {
				t.Fatal(n, x.Count())
			}
			put(d, at(g, 1-i%2), l[0][:n/8+1]+r.noise(64)[n/8+1:])
			is(t, "Open", opened(t, g, d), n, true)
		}
	}
}

// P16.1: a tally is its two sectors: what lies on the others doesn't matter, and they aren't touched; there may be more of them.
func TestPlaces(t *testing.T) {
	for _, g := range geos() {
		for _, more := range []int{0, 1, 2, 512 - all(g)} {
			if all(g)+more > 512 {
				continue
			}
			d, _ := flash.New(all(g) + more)
			r := dice{uint64(more)}
			for n := range d.Sectors() {
				put(d, n, r.noise(64))
			}
			put(d, at(g, 0), cleared(126, 512))
			put(d, at(g, 1), cleared(125, 512))
			before := dump(d)
			x := opened(t, g, d)
			is(t, "Open", x, 126, false)
			for i, call := range []func() api.Errno{x.Level, x.Bump, x.Bump, x.Bump, x.Reset, x.Bump} {
				if e := call(); e != api.OK {
					t.Fatal(g, i, e)
				}
				is(t, "a call", x, []int{126, 127, 128, 129, 0, 1}[i], true)
				want := cleared(x.Count(), 512)
				isAs(t, "a call", d, before[:64*at(g, 0)]+want+want+before[64*all(g):])
				opened(t, g, d)
			}
		}
	}
}

// far are numbers that no geometry has.
func far() []int {
	return []int{math.MinInt, math.MinInt + 1, -1 << 32, -256, -2, -1, 0, 9, 10, 256, 257, 1 << 32, 1<<32 + 1, math.MaxInt - 1, math.MaxInt}
}

// P16.1: without a device that has sectors enough, and a geometry that is right, there is no tally; that is asked ahead of the device's errors, and nothing is written.
func TestNoDevice(t *testing.T) {
	refused := func(want api.Errno, d *flash.Dev, g geo.Geo) {
		t.Helper()
		before := dump(d)
		if x, e := tally.Open(d, g); x != nil || e != want {
			t.Error(g, x, e)
		}
		isAs(t, "refused", d, before)
	}
	for _, g := range geos() {
		refused(api.ErrArg, nil, g)
		refused(api.ErrArg, &flash.Dev{}, g)
		for _, n := range []int{1, at(g, 0) - 1, at(g, 0), at(g, 1)} {
			d, _ := flash.New(n)
			refused(api.ErrArg, d, g)
			down(d)
			refused(api.ErrArg, d, g)
		}
		for _, n := range []int{all(g), all(g) + 1, 512} {
			d, _ := flash.New(n)
			opened(t, g, d)
			down(d)
			refused(api.ErrDown, d, g)
			again(t, g, d)
		}
	}
	d, _ := flash.New(512)
	for range 2 {
		for _, n := range far() {
			refused(api.ErrArg, d, shape(n, 2, 1))
			refused(api.ErrArg, d, shape(1, n, 1))
			refused(api.ErrArg, d, shape(1, 2, n))
		}
		refused(api.ErrArg, d, shape(1, 1, 1))
		refused(api.ErrArg, d, shape(1, 7, 1))
		refused(api.ErrArg, d, geo.Geo{})
		refused(api.ErrArg, nil, geo.Geo{})
		down(d)
	}
}

// P16.1: Bump lets it be one more, from 0 up to 512, by just those two programs; then it is full.
func TestBump(t *testing.T) {
	for _, g := range geos() {
		d := forged(t, g, 0, 0)
		before := dump(d)
		x := opened(t, g, d)
		for n := range 512 {
			if g == geos()[0] || n%32 == 31 {
				does(t, "Bump", d, marking(g, n), func(d *flash.Dev) api.Errno { return opened(t, g, d).Bump() })
			}
			if e := x.Bump(); e != api.OK {
				t.Fatal(g, n, e)
			}
			is(t, "Bump", x, n+1, true)
			is(t, "Bump, opened", opened(t, g, d), n+1, true)
			isAs(t, "Bump", d, before[:64*at(g, 0)]+strings.Repeat(cleared(n+1, 512), 2))
		}
	}
}

// P16.1: at 512 Bump is ErrFull, and does nothing, be it in one sector or in both; that is asked ahead of the device.
func TestFull(t *testing.T) {
	g := shape(1, 2, 1)
	for _, one := range edges() {
		for i := range 2 {
			d := forged(t, g, 512, one)
			if i == 1 {
				d = forged(t, g, one, 512)
			}
			before := dump(d)
			x := opened(t, g, d)
			for range 2 {
				ops := d.Ops()
				if e := x.Bump(); e != api.ErrFull || d.Ops() != ops {
					t.Fatal(one, e, d.Ops()-ops)
				}
				is(t, "full", x, 512, one == 512)
				isAs(t, "full", d, before)
				down(d)
			}
			d.PowerOn()
			if e := x.Reset(); e != api.OK {
				t.Fatal(e)
			}
			if e := x.Bump(); e != api.OK {
				t.Fatal(e)
			}
			is(t, "not full any more", x, 1, true)
		}
	}
}

// bumped is what a sector's count is when bit n was cleared, and those ahead of it in its page.
func bumped(count, n int) int {
	if count < n/128*128 {
		return count
	}
	return n + 1
}

// P16.1: of sectors that haven't the same count both have one more than the greater one, as far as that page alone can make it so; whether it is even then is told.
func TestBumpUneven(t *testing.T) {
	g := shape(1, 2, 1)
	for _, one := range edges() {
		for _, two := range edges() {
			n := max(one, two)
			if n == 512 {
				continue
			}
			d := forged(t, g, one, two)
			does(t, "Bump", d, marking(g, n), func(d *flash.Dev) api.Errno { return opened(t, g, d).Bump() })
			x := opened(t, g, d)
			if e := x.Bump(); e != api.OK {
				t.Fatal(one, two, e)
			}
			even := bumped(one, n) == bumped(two, n)
			is(t, "Bump", x, n+1, even)
			is(t, "Bump, opened", opened(t, g, d), n+1, even)
			if n+1 < 512 {
				if e := x.Bump(); e != api.OK {
					t.Fatal(one, two, e)
				}
				even = even && bumped(bumped(one, n), n+1) == bumped(bumped(two, n), n+1)
				is(t, "Bump again", x, n+2, even)
				is(t, "Bump again, opened", opened(t, g, d), n+2, even)
			}
		}
	}
}

// P16.1: a bit that isn't cleared ahead of the count is cleared, if it is in that page; no other bits are.
func TestBumpHoles(t *testing.T) {
	g := shape(1, 2, 1)
	r := dice{2}
	for range 800 {
		n := r.below(512)
		d := forged(t, g, n, n)
		i := r.below(2)
		for range 1 + r.below(4) { // bits of one sector, but that one which would be the next one behind the new count
			if bit := r.below(512); bit != n && bit != n+1 {
				put(d, at(g, i), flipped(d.Dump(at(g, i)), bit))
			}
		}
		is(t, "holes", opened(t, g, d), n, seen(d.Dump(at(g, i))) == n)
		does(t, "Bump", d, marking(g, n), func(d *flash.Dev) api.Errno { return opened(t, g, d).Bump() })
		x := opened(t, g, d)
		if e := x.Bump(); e != api.OK {
			t.Fatal(e)
		}
		if m := opened(t, g, d); x.Count() != n+1 || m.Count() != n+1 || x.Even() != m.Even() {
			t.Fatal(n, x.Count(), x.Even(), m.Count(), m.Even())
		}
	}
}

// P16.1: Bump programs the same, and lets it be one more, where bits behind that are cleared already; opened anew the count is what the bits tell.
func TestBumpBehind(t *testing.T) {
	g := shape(1, 2, 1)
	for _, n := range edges() {
		for _, far := range []int{n + 2, n + 9, 512} {
			for i := range 2 {
				if n == 512 || far > 512 {
					continue
				}
				d := forged(t, g, n, n)
				put(d, at(g, i), packed(strings.Repeat("0", n)+"1"+strings.Repeat("0", far-n-1)+strings.Repeat("1", 512-far)))
				does(t, "Bump", d, marking(g, n), func(d *flash.Dev) api.Errno { return opened(t, g, d).Bump() })
				x := opened(t, g, d)
				if e := x.Bump(); e != api.OK || x.Count() != n+1 {
					t.Fatal(n, far, e, x.Count())
				}
				is(t, "opened anew", opened(t, g, d), far, far == n+1)
			}
		}
	}
}

// flipped is bytes of which one bit is the other.
func flipped(s string, bit int) string {
	b := []byte(s)
	b[bit/8] ^= 128 >> (bit % 8)
	return string(b)
}

// P16.1: Reset erases the first sector, then the second one, whatever they are: the count is 0.
func TestReset(t *testing.T) {
	for _, g := range geos() {
		for n, one := range edges() {
			for _, two := range []int{one, edges()[(n*7+3)%27], 0, 512} {
				d := forged(t, g, one, two)
				if g == geos()[0] || n%9 == 0 {
					does(t, "Reset", d, wiping(g), func(d *flash.Dev) api.Errno { return opened(t, g, d).Reset() })
				}
				x := opened(t, g, d)
				if e := x.Reset(); e != api.OK {
					t.Fatal(g, one, two, e)
				}
				is(t, "Reset", x, 0, true)
				is(t, "Reset, opened", opened(t, g, d), 0, true)
				for n := range 3 {
					if e := x.Bump(); e != api.OK {
						t.Fatal(e)
					}
					is(t, "Bump", x, n+1, true)
				}
			}
		}
		d := noisy(t, g, 3)
		x := opened(t, g, d)
		if e := x.Reset(); e != api.OK {
			t.Fatal(e)
		}
		is(t, "Reset", x, 0, true)
		is(t, "Reset, opened", opened(t, g, d), 0, true)
	}
}

// P16.1: a Reset that is torn tells the device's error, and the count is as it was till it is opened anew; in the first sector the second one still has it then. Done again it is 0.
func TestResetTorn(t *testing.T) {
	g := shape(1, 2, 1)
	r := dice{4}
	for _, n := range edges() {
		for cut := range 2 {
			for bytes := range 65 {
				d := forged(t, g, n, n)
				x := opened(t, g, d)
				d.Fuse(cut, flash.Torn{Bytes: bytes, Mask: byte(r.below(256))})
				if e := x.Reset(); e != api.ErrDown {
					t.Fatal(e)
				}
				is(t, "torn", x, n, true)
				x = again(t, g, d)
				if cut == 0 && x.Count() != n || cut == 1 && x.Count() > n {
					t.Fatal(n, cut, bytes, x.Count())
				}
				if e := x.Reset(); e != api.OK {
					t.Fatal(e)
				}
				is(t, "Reset", x, 0, true)
				isAs(t, "Reset", d, dump(forged(t, g, n, n))[:64*at(g, 0)]+strings.Repeat("\xff", 128))
			}
		}
	}
}

// P16.1: Level programs the page with the last bit of the count as Bump would have done: the count stays, and it is even.
func TestLevel(t *testing.T) {
	g := shape(1, 2, 1)
	for _, one := range edges() {
		for _, two := range edges() {
			n := max(one, two)
			d := forged(t, g, one, two)
			var steps []step
			if n > 0 {
				steps = marking(g, n-1)
			}
			does(t, "Level", d, steps, func(d *flash.Dev) api.Errno { return opened(t, g, d).Level() })
			x := opened(t, g, d)
			if e := x.Level(); e != api.OK {
				t.Fatal(one, two, e)
			}
			is(t, "Level", x, n, true)
			m := opened(t, g, d)
			is(t, "Level, opened", m, n, n == 0 || bumped(one, n-1) == bumped(two, n-1))
		}
	}
}

// P16.1: what a torn Bump left uneven Level makes even, also where a page ends, and it goes on from there; so it is for each count.
func TestLevelTornBump(t *testing.T) {
	g := shape(1, 2, 1)
	r := dice{5}
	for n := range 512 {
		for cut := range 2 {
			d := forged(t, g, n, n)
			d.Fuse(cut, flash.Torn{Bytes: r.below(17), Mask: byte(r.below(256))})
			if e := opened(t, g, d).Bump(); e != api.ErrDown {
				t.Fatal(e)
			}
			x := again(t, g, d)
			k := x.Count()
			if e := x.Level(); e != api.OK {
				t.Fatal(n, e)
			}
			is(t, "Level", x, k, true)
			is(t, "Level, opened", opened(t, g, d), k, true)
			if k == 512 {
				continue
			}
			if e := x.Bump(); e != api.OK {
				t.Fatal(n, e)
			}
			is(t, "Bump", x, k+1, true)
			is(t, "Bump, opened", opened(t, g, d), k+1, true)
		}
	}
}

// P16.1: of a count of 0 Level does nothing, not even where the device is down; it is even.
func TestLevelNothing(t *testing.T) {
	g := shape(1, 2, 1)
	d := forged(t, g, 0, 0)
	put(d, at(g, 1), cleared(0, 8)+cleared(40, 504)) // there are bits behind it that are cleared
	x := opened(t, g, d)
	before := dump(d)
	for range 2 {
		ops := d.Ops()
		if e := x.Level(); e != api.OK || d.Ops() != ops {
			t.Fatal(e, d.Ops()-ops)
		}
		is(t, "Level", x, 0, true)
		isAs(t, "Level", d, before)
		down(d)
	}
}

// P16.1: a Level that is torn tells the device's error, and all is as it was; opened anew the count is the same.
func TestLevelTorn(t *testing.T) {
	g := shape(1, 2, 1)
	r := dice{6}
	for _, one := range edges() {
		for _, two := range edges() {
			for cut := range 2 {
				n := max(one, two)
				d := forged(t, g, one, two)
				x := opened(t, g, d)
				d.Fuse(cut, flash.Torn{Bytes: r.below(17), Mask: byte(r.below(256))})
				if e := x.Level(); n > 0 && e != api.ErrDown || n == 0 && e != api.OK {
					t.Fatal(one, two, e)
				}
				is(t, "torn", x, n, one == two)
				if m := again(t, g, d); m.Count() != n {
					t.Fatal(one, two, cut, m.Count())
				}
			}
		}
	}
}

// P16.1: it was even, or not, when it was opened: what rots behind that isn't told, nor is it in the count, till it is opened anew.
func TestKept(t *testing.T) {
	g := shape(1, 2, 1)
	d := forged(t, g, 20, 20)
	x := opened(t, g, d)
	put(d, at(g, 0), cleared(300, 512))
	is(t, "as it was opened", x, 20, true)
	is(t, "opened anew", opened(t, g, d), 300, false)
	x = opened(t, g, d)
	put(d, at(g, 0), cleared(20, 512))
	is(t, "as it was opened", x, 300, false)
	is(t, "opened anew", opened(t, g, d), 20, true)
	// Nor does a look change anything.
	x = opened(t, g, d)
	ops := d.Ops()
	for range 3 {
		is(t, "a look", x, 20, true)
	}
	if d.Ops() != ops {
		t.Error(d.Ops() - ops)
	}
}

// P16.1: a Bump that tells an error leaves the count, and whether it is even, as it was, till it is opened anew; a later one that tells OK lets it be one more.
func TestBumpNotOpenedAnew(t *testing.T) {
	g := shape(1, 2, 1)
	r := dice{7}
	for _, one := range edges() {
		for _, two := range edges() {
			n := max(one, two)
			if n == 512 {
				continue
			}
			d := forged(t, g, one, two)
			x := opened(t, g, d)
			for range 3 {
				d.Fuse(r.below(2), flash.Torn{Bytes: r.below(17), Mask: byte(r.below(256))})
				if e := x.Bump(); e != api.ErrDown {
					t.Fatal(e)
				}
				is(t, "torn", x, n, one == two)
				d.PowerOn()
				is(t, "up", x, n, one == two)
			}
			if e := x.Bump(); e != api.OK {
				t.Fatal(e)
			}
			even := bumped(one, n) == bumped(two, n)
			is(t, "Bump", x, n+1, even)
			is(t, "Bump, opened", opened(t, g, d), n+1, even)
		}
	}
}

// P16.1: a device that is down tells so, and all is as it was.
func TestDown(t *testing.T) {
	g := shape(1, 2, 1)
	for _, one := range edges() {
		for _, two := range []int{one, 0, 130} {
			n := max(one, two)
			d := forged(t, g, one, two)
			x := opened(t, g, d)
			down(d)
			before := dump(d)
			for i, call := range []func() api.Errno{x.Bump, x.Reset, x.Level} {
				want := api.ErrDown
				switch {
				case i == 0 && n == 512:
					want = api.ErrFull
				case i == 2 && n == 0:
					want = api.OK
				}
				if e := call(); e != want {
					t.Fatal(one, two, i, e)
				}
				is(t, "down", x, n, one == two)
				isAs(t, "down", d, before)
			}
			if m, e := tally.Open(d, g); m != nil || e != api.ErrDown {
				t.Fatal(m, e)
			}
			is(t, "up", again(t, g, d), n, one == two)
		}
	}
}

// P16.1: a sector that is locked is told, too; what comes ahead of it is done, and the count is as it was till it is opened anew.
func TestLocked(t *testing.T) {
	g := shape(1, 2, 1)
	for _, n := range []int{0, 5, 127, 128, 200, 511} {
		for i := range 2 {
			d := forged(t, g, n, n)
			d.Lock(at(g, i), at(g, i)+1)
			does(t, "Bump", d, marking(g, n), func(d *flash.Dev) api.Errno { return opened(t, g, d).Bump() })
			does(t, "Reset", d, wiping(g), func(d *flash.Dev) api.Errno { return opened(t, g, d).Reset() })
			x := opened(t, g, d)
			if n > 0 {
				does(t, "Level", d, marking(g, n-1), func(d *flash.Dev) api.Errno { return opened(t, g, d).Level() })
				if e := x.Level(); e != api.ErrLock {
					t.Fatal(e)
				}
			}
			if e := x.Bump(); e != api.ErrLock {
				t.Fatal(n, i, e)
			}
			is(t, "Bump", x, n, true)
			is(t, "Bump, opened", opened(t, g, d), n+i, i == 0)
			if e := x.Reset(); e != api.ErrLock {
				t.Fatal(n, i, e)
			}
			is(t, "Reset", x, n, true)
			is(t, "Reset, opened", opened(t, g, d), n, i == 0 || n == 0)
		}
	}
	// Other sectors that are locked don't matter.
	d := forged(t, g, 5, 5)
	d.Lock(0, at(g, 0))
	x := opened(t, g, d)
	for _, call := range []func() api.Errno{x.Bump, x.Level, x.Reset, x.Bump} {
		if e := call(); e != api.OK {
			t.Fatal(e)
		}
	}
	is(t, "others", x, 1, true)
}

// P16.1: of no tally all are refused, and nothing is told.
func TestNil(t *testing.T) {
	for _, x := range []*tally.Tally{nil, {}} {
		for range 2 {
			for i, call := range []func() api.Errno{x.Bump, x.Reset, x.Level} {
				if e := call(); e != api.ErrArg {
					t.Error(i, e)
				}
			}
			if x.Count() != 0 || x.Even() {
				t.Error(x.Count(), x.Even())
			}
		}
	}
}

// P16.1: two tallies of two devices are two, and so are two geometries' of one device.
func TestApart(t *testing.T) {
	g, h := shape(1, 2, 1), shape(2, 2, 3)
	d, other := forged(t, h, 3, 3), forged(t, h, 7, 7)
	put(d, at(g, 0), cleared(40, 512))
	put(d, at(g, 1), cleared(40, 512))
	x, y, z := opened(t, g, d), opened(t, h, d), opened(t, h, other)
	for i := range 20 {
		for _, m := range []*tally.Tally{x, y, z} {
			if e := m.Bump(); e != api.OK {
				t.Fatal(e)
			}
		}
		is(t, "one", x, 41+i, true)
		is(t, "another geometry's", y, 4+i, true)
		is(t, "another device's", z, 8+i, true)
	}
	if e := y.Reset(); e != api.OK {
		t.Fatal(e)
	}
	is(t, "one", opened(t, g, d), 60, true)
	is(t, "another geometry's", opened(t, h, d), 0, true)
	is(t, "another device's", opened(t, h, other), 27, true)
}
