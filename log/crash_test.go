package log_test

import (
	"math/bits"
	"slices"
	"strings"
	"testing"

	"triptych/api"
	"triptych/flash"
	"triptych/geo"
	"triptych/log"
	"triptych/record"
)

// masks are masks of bytes that are torn.
func masks() []byte {
	return []byte{0, 255, 1, 128, 15, 240, 0x55, 0xaa, 254, 127, 60}
}

// again lets the power come back, and opens the log anew.
func again(t *testing.T, g geo.Geo, d *flash.Dev) *log.Log {
	t.Helper()
	d.PowerOn()
	return opened(t, g, d)
}

// with is a log's records and one more.
func with(l []record.Rec, x record.Rec) []record.Rec { return append(slices.Clone(l), bare(x)...) }

// P15.2: an Append that is torn, at each byte and with each mask, in either copy: the log has what it had, or that and the record, which it has just if a copy's page is whole. It goes on from there.
func TestAppendTorn(t *testing.T) {
	r := dice{21}
	g := shape(1, 2, 1)
	for n := range 13 {
		l, d := formatted(t, g, r.recs(n%4)...)
		for range n {
			if e := l.Append(r.rec()); e != api.OK {
				t.Fatal(e)
			}
		}
		if l.Room() == 0 {
			continue
		}
		x := r.rec()
		page := plain(16-l.Room(), x)
		for cut := range 2 {
			for bytes := range 17 {
				for mask := range 256 {
					if n != 5 && !slices.Contains(masks(), byte(mask)) { // some are enough
						continue
					}
					tornAppend(t, g, d.Copy(), x, page, cut, flash.Torn{Bytes: bytes, Mask: byte(mask)})
				}
			}
		}
	}
}

// tornAppend tears an Append, and asks what is left.
func tornAppend(t *testing.T, g geo.Geo, d *flash.Dev, x record.Rec, page string, cut int, torn flash.Torn) {
	t.Helper()
	l := opened(t, g, d)
	old, at := l.All(), 16-l.Room()
	d.Fuse(cut, torn)
	if e := l.Append(x); e != api.ErrDown || l.Clean() || !slices.Equal(l.All(), old) {
		t.Fatal(e, l.Clean(), l.All())
	}
	want := old
	if read(d, spot(g, 0, 0, at)) == page || read(d, spot(g, 0, 1, at)) == page {
		want = with(old, x)
	}
	if cut == 1 && len(want) == len(old) || cut == 0 && torn.Bytes == 0 && torn.Mask == 255 && len(want) > len(old) {
		t.Fatal(cut, torn, want)
	}
	l = again(t, g, d)
	if !slices.Equal(l.All(), want) || l.Gen() != 1 || l.Room() != 14-len(want) {
		t.Fatal(cut, torn, l.All(), want)
	}
	y := record.Rec{Kind: 9, Value: int(torn.Mask)}
	if l.Room() > 0 {
		if e := l.Append(y); e != api.OK {
			t.Fatal(cut, torn, e)
		}
		want = with(want, y)
	}
	if l = opened(t, g, d); !slices.Equal(l.All(), want) {
		t.Fatal(cut, torn, l.All(), want)
	}
}

// P15.2: a Compact that is torn at each erase and each program: the log has what it had, or the new base, which it has just if its last page is whole in a copy.
func TestCompactTorn(t *testing.T) {
	r := dice{22}
	g := shape(1, 2, 1)
	for n := range 13 {
		l, d := formatted(t, g, r.recs(n)...)
		for range n % 3 { // so that there was a log in the other half, or in none
			if e := l.Compact(r.recs(12 - n)...); e != api.OK {
				t.Fatal(e)
			}
		}
		base := r.recs((n * 5) % 13)
		steps := 8 + 2*(len(base)+2)
		for cut := range steps {
			for i := range 17 {
				for _, mask := range masks() {
					torn := flash.Torn{Bytes: i, Mask: mask}
					if cut < 8 {
						torn.Bytes = []int{0, 1, 2, 4, 9, 15, 16, 17, 20, 31, 32, 33, 48, 50, 62, 63, 64}[i]
					}
					tornCompact(t, g, d.Copy(), base, cut, steps, torn)
				}
			}
		}
	}
}

// tornCompact tears a Compact, and asks what is left; then a further Compact is done.
func tornCompact(t *testing.T, g geo.Geo, d *flash.Dev, base []record.Rec, cut, steps int, torn flash.Torn) {
	t.Helper()
	l := opened(t, g, d)
	old := kept{l.Gen(), l.All(), l.Room(), true}
	d.Fuse(cut, torn)
	if e := l.Compact(base...); e != api.ErrDown || l.Clean() || !slices.Equal(l.All(), old.recs) {
		t.Fatal(cut, torn, e, l.Clean(), l.All())
	}
	l = again(t, g, d)
	last := read(d, spot(g, old.gen%2, 0, len(base)+1))
	switch {
	case cut == steps-1 || cut == steps-2 && last == plain(len(base)+1, record.Rec{Kind: 127, Value: old.gen + 1}):
		is(t, "new", l, kept{old.gen + 1, bare(base...), 14 - len(base), inLog(d, g).clean})
	default:
		is(t, "old", l, old)
	}
	gen := l.Gen()
	if e := l.Compact(base...); e != api.OK {
		t.Fatal(cut, torn, e)
	}
	is(t, "Compact", opened(t, g, d), kept{gen + 1, bare(base...), 14 - len(base), true})
}

// P15.2: a Compact that is torn again and again, wherever it is: the log has what it had.
func TestCompactTornAgain(t *testing.T) {
	r := dice{23}
	g := shape(2, 2, 3)
	for range 60 {
		l, d := formatted(t, g, r.recs(r.below(13))...)
		for range r.below(3) {
			l.Compact(r.recs(r.below(13))...)
		}
		old := kept{l.Gen(), l.All(), l.Room(), true}
		for range 30 {
			d.Fuse(r.below(12), r.tear())
			if e := l.Compact(r.recs(1 + r.below(12))...); e != api.ErrDown {
				t.Fatal(e)
			}
			l = again(t, g, d)
			is(t, "torn", l, old)
		}
	}
}

// life is a log through crashes, and what it must have.
type life struct {
	g     geo.Geo
	d     *flash.Dev
	l     *log.Log
	r     dice
	recs  []record.Rec
	torn  []record.Rec // what was being appended when it was torn
	count map[string]int
}

// after asks that a call did what it must: nothing with an error, but for the device's, which leaves the one or the other.
func (f *life) after(t *testing.T, e api.Errno, then []record.Rec) {
	t.Helper()
	switch e {
	case api.OK:
		f.recs = then
	case api.ErrDown:
		f.l = again(t, f.g, f.d)
		if slices.Equal(f.l.All(), then) {
			f.recs = then
		}
		f.count["down"]++
	case api.ErrFull:
		f.count["full"]++
	default:
		t.Fatal(e)
	}
	// What it has is what would be there if it were opened now.
	if m := opened(t, f.g, f.d.Copy()); !slices.Equal(f.l.All(), f.recs) || !slices.Equal(m.All(), f.recs) || m.Gen() != f.l.Gen() || m.Room() != f.l.Room() {
		t.Fatal(e, f.l.All(), m.All(), "want", f.recs)
	}
}

// append appends a record, which is one that was torn sometimes, and is torn sometimes.
func (f *life) append(t *testing.T) {
	t.Helper()
	x := f.r.rec()
	if len(f.torn) > 0 && f.r.below(2) == 0 {
		x = f.torn[f.r.below(len(f.torn))]
	}
	if f.r.below(3) > 0 {
		f.d.Fuse(f.r.below(2), f.r.tear())
	}
	e := f.l.Append(x)
	f.d.Fuse(-1, flash.Torn{})
	switch {
	case e == api.ErrDown:
		f.torn = append(f.torn, x)
	case e == api.ErrFull && f.l.Room() > 0:
		f.count["no page left"]++
	}
	f.after(t, e, with(f.recs, x))
}

// compact compacts, and is torn sometimes.
func (f *life) compact(t *testing.T) {
	t.Helper()
	base := f.r.recs(f.r.below(13))
	if f.r.below(2) == 0 && len(f.recs) <= 12 {
		base = f.l.All()
	}
	if f.r.below(2) == 0 {
		f.d.Fuse(f.r.below(40), f.r.tear())
	}
	e := f.l.Compact(base...)
	f.d.Fuse(-1, flash.Torn{})
	if e == api.OK {
		f.torn = nil
	}
	f.after(t, e, bare(base...))
}

// P15.2: logs that live through crashes, one behind the other; nobody asks whether they are clean, so records are appended where elder ones were torn. What was appended is never lost.
func TestLives(t *testing.T) {
	count := map[string]int{}
	for seed := range 60 {
		f := life{g: geos()[seed%2], r: dice{uint64(seed)}, count: count}
		f.l, f.d = formatted(t, f.g)
		for range 100 {
			if f.r.below(12) == 0 || f.l.Room() == 0 {
				f.compact(t)
			} else {
				f.append(t)
			}
		}
	}
	if count["down"] < 1000 || count["full"] < 100 || count["no page left"] < 100 {
		t.Error(count)
	}
}

// P15.2: of a page that was torn in both copies nothing is left for another record, so that is told, and nothing is done; the same record still has its page there. Compact makes room.
func TestTornTwice(t *testing.T) {
	g := shape(1, 2, 1)
	x, y := record.Rec{Kind: 5, Slot: 2, Value: 0x123456789abc}, record.Rec{Kind: 60, Slot: 1, Value: 77}
	for one := range 16 {
		for two := range 16 {
			l, d := formatted(t, g, y)
			d.Fuse(0, flash.Torn{Bytes: one, Mask: 255})
			if e := l.Append(x); e != api.ErrDown {
				t.Fatal(e)
			}
			l = again(t, g, d)
			d.Fuse(1, flash.Torn{Bytes: two, Mask: 255})
			if e := l.Append(y); e != api.ErrDown {
				t.Fatal(e)
			}
			l = again(t, g, d)
			k := kept{1, []record.Rec{y}, 13, one == 0 && two == 0}
			if read(d, spot(g, 0, 0, 3)) == plain(3, y) { // nothing was torn there
				k = kept{1, []record.Rec{y, y}, 12, false}
			}
			is(t, "torn", l, k)
			twice(t, g, d, l, x, k)
		}
	}
}

// twice asks that a record is held when it was appended, or isn't taken.
func twice(t *testing.T, g geo.Geo, d *flash.Dev, l *log.Log, x record.Rec, k kept) {
	t.Helper()
	before := dump(d)
	x.Value ^= 0x0f0f0f0f0f
	switch e := l.Append(x); e {
	case api.OK:
		k.recs, k.room = with(k.recs, x), k.room-1
	case api.ErrFull:
		isAs(t, "full", d, before)
		if read(d, spot(g, 0, 0, 16-k.room)) == strings.Repeat("\xff", 16) || read(d, spot(g, 0, 1, 16-k.room)) == strings.Repeat("\xff", 16) {
			t.Fatal("a page is left")
		}
	default:
		t.Fatal(e)
	}
	is(t, "Append", l, k)
	m := opened(t, g, d)
	if !slices.Equal(m.All(), k.recs) {
		t.Fatal(m.All(), k)
	}
	if e := m.Compact(m.All()...); e != api.OK {
		t.Fatal(e)
	}
	if e := m.Append(x); e != api.OK {
		t.Fatal(e)
	}
	is(t, "Compact", opened(t, g, d), kept{2, with(k.recs, x), 13 - len(k.recs), true})
}

// P15.2: a record that is torn, and tried again till it is there, as it is, needs no other page.
func TestTriedAgain(t *testing.T) {
	r := dice{24}
	g := shape(1, 2, 1)
	for range 300 {
		l, d := formatted(t, g, r.recs(r.below(13))...)
		old, room := l.All(), l.Room()
		x := r.rec()
		for range r.below(6) {
			d.Fuse(r.below(2), r.tear())
			if e := l.Append(x); e != api.ErrDown {
				t.Fatal(e)
			}
			if l = again(t, g, d); l.Room() < room {
				break
			}
		}
		if l.Room() == room {
			if e := l.Append(x); e != api.OK {
				t.Fatal(e)
			}
		}
		if l = opened(t, g, d); !slices.Equal(l.All(), with(old, x)) {
			t.Fatal(l.All())
		}
	}
}

// above is a record whose page n has a 1 wherever x's has one ahead of byte at, and at that byte some of x's ones, or just those, if alike; it is another one.
func above(t *testing.T, n int, x record.Rec, at int, alike bool) record.Rec {
	t.Helper()
	page := plain(n, x)
	r := dice{uint64(n)}
	for range 1 << 22 {
		y := r.rec()
		y.Kind, y.Slot, y.Value = y.Kind|x.Kind, y.Slot|x.Slot, y.Value|x.Value
		other := plain(n, y)
		fits := other != page && y.Kind < 126 && other[at]&^page[at] == 0 && (other[at] == page[at]) == alike
		for i := range at {
			fits = fits && page[i]&^other[i] == 0
		}
		if fits {
			return y
		}
	}
	t.Fatal("no such record", n, at, alike)
	return x
}

// few is a record whose page n has few ones ahead of byte at, so that others have them as well, some but not all there, and nothing but ones behind it.
func few(n, at int) record.Rec {
	best, least := record.Rec{}, 200
	for i := range 100000 {
		x := record.Rec{Kind: i & 1, Slot: i & 2, Value: i / 4}
		page := plain(n, x)
		many := 0
		for i := range at {
			many += bits.OnesCount8(page[i])
		}
		if many < least && page[at] != 255 && page[at] != 0 && page[at+1:] == strings.Repeat("\xff", 15-at) {
			best, least = x, many
		}
	}
	return best
}

// P15.2: where a record was torn, another one isn't programmed by which the elder one would be there, neither when it is done nor when it is torn itself.
func TestElder(t *testing.T) {
	for n := 2; n < 8; n++ {
		for _, at := range []int{14, 15} {
			x := few(n, at)
			for _, alike := range []bool{true, false} {
				elder(t, n, x, above(t, n, x, at, alike), flash.Torn{Bytes: at, Mask: plain(n, x)[at]})
			}
		}
	}
}

// elder tears x as page n, and then lays y there, which is torn likewise in the first copy, or in the second one, or isn't.
func elder(t *testing.T, n int, x, y record.Rec, torn flash.Torn) {
	t.Helper()
	g := shape(1, 2, 1)
	for cut := -1; cut < 2; cut++ {
		l, d := formatted(t, g, slices.Repeat([]record.Rec{{Kind: 1}}, n-2)...)
		old := l.All()
		d.Fuse(0, flash.Torn{Bytes: torn.Bytes, Mask: 255})
		if e := l.Append(x); e != api.ErrDown {
			t.Fatal(e)
		}
		if l = again(t, g, d); !slices.Equal(l.All(), old) {
			t.Fatal(l.All())
		}
		d.Fuse(cut, torn)
		want := old
		if e := l.Append(y); e == api.OK {
			want = with(old, y)
		}
		l = again(t, g, d)
		if !slices.Equal(l.All(), want) && !slices.Equal(l.All(), with(old, y)) {
			t.Fatal(n, torn, cut, l.All(), "want", want, "and", y, "not", x)
		}
	}
}

// P15.2: an old log, which wasn't opened anew behind an error of the device, and one of two that were opened, don't undo what is there.
func TestNotOpenedAnew(t *testing.T) {
	r := dice{25}
	g := shape(1, 2, 1)
	for range 200 {
		l, d := formatted(t, g, r.recs(r.below(12))...)
		x, y := r.rec(), r.rec()
		d.Fuse(r.below(2), r.tear())
		if e := l.Append(x); e != api.ErrDown {
			t.Fatal(e)
		}
		d.PowerOn()
		there := opened(t, g, d).All()
		e := l.Append(y)
		m := opened(t, g, d)
		if e == api.OK && !slices.Equal(m.All(), l.All()) || e == api.ErrFull && !slices.Equal(m.All(), there) || e != api.OK && e != api.ErrFull {
			t.Fatal(e, m.All(), l.All(), there)
		}
	}
}

// turn turns a page, so that it is no record's.
func turn(r *dice, d *flash.Dev, at, n int) {
	old := read(d, at)
	ways := []string{
		strings.Repeat("\xff", 16), strings.Repeat("\x00", 16), r.noise(16), old[:r.below(16)] + strings.Repeat("\xff", 16),
		old[:12] + "\xff\xff\xff\xff", plain(n, r.rec())[:15] + "\xff", "\x7f" + old[1:],
	}
	s := ways[r.below(len(ways))][:16]
	if r.below(2) == 0 { // a bit alone
		b := []byte(old)
		b[r.below(16)] ^= 1 << r.below(8)
		s = string(b)
	}
	if _, ok := there(n, s); ok || s == old {
		s = "\x80" + r.noise(15)
	}
	put(d, at, s)
}

// P15.3: each page alone is turned in one copy, be it a record's or a blank one: the log has what it had, and isn't clean.
func TestTurnedOne(t *testing.T) {
	r := dice{26}
	g := shape(1, 2, 1)
	for later := range 9 {
		l, d := formatted(t, g, r.recs(5)...)
		for range later {
			if e := l.Append(r.rec()); e != api.OK {
				t.Fatal(e)
			}
		}
		k := kept{1, l.All(), l.Room(), false}
		for n := range 16 {
			for copy := range 2 {
				for range 20 {
					x := d.Copy()
					turn(&r, x, spot(g, 0, copy, n), n)
					is(t, "turned", opened(t, g, x), k)
				}
			}
		}
	}
}

// P15.3: each page is turned in one copy, now in this one, now in that: the log has what it had. So it is when it goes on, but it isn't clean till it is compacted.
func TestTurnedAll(t *testing.T) {
	r := dice{27}
	for i := range 600 {
		g := geos()[i%2]
		l, d := formatted(t, g, r.recs(r.below(13))...)
		for range r.below(4) {
			l.Compact(r.recs(r.below(13))...)
		}
		for range r.below(l.Room() + 1) {
			if e := l.Append(r.rec()); e != api.OK {
				t.Fatal(e)
			}
		}
		k := kept{l.Gen(), l.All(), l.Room(), false}
		half := 1 - k.gen%2
		always := r.below(3)
		for n := range 16 {
			copy := r.below(2)
			if always < 2 {
				copy = always
			}
			turn(&r, d, spot(g, half, copy, n), n)
		}
		l = opened(t, g, d)
		is(t, "turned", l, k)
		if l.Room() > 0 {
			x := r.rec()
			if e := l.Append(x); e != api.OK {
				t.Fatal(e)
			}
			k.recs, k.room = with(k.recs, x), k.room-1
			l = opened(t, g, d)
			is(t, "Append", l, k)
		}
		if base := l.All(); len(base) <= 12 {
			if e := l.Compact(base...); e != api.OK {
				t.Fatal(e)
			}
			is(t, "Compact", opened(t, g, d), kept{k.gen + 1, k.recs, 14 - len(base), true})
		}
	}
}

// P15.3, P15.2: bytes turn while a log is open, also where the next record will lie: what is appended then is there, or isn't taken.
func TestTurnedOpen(t *testing.T) {
	r := dice{28}
	g := shape(1, 2, 1)
	for range 600 {
		l, d := formatted(t, g, r.recs(r.below(12))...)
		n := 16 - l.Room()
		for copy := range 2 {
			if r.below(3) > 0 {
				turn(&r, d, spot(g, 0, copy, n), n)
			}
		}
		old := l.All()
		x := r.rec()
		want := old
		switch e := l.Append(x); e {
		case api.OK:
			want = with(old, x)
		case api.ErrFull:
		default:
			t.Fatal(e)
		}
		if !slices.Equal(l.All(), want) || !slices.Equal(opened(t, g, d).All(), want) {
			t.Fatal(l.All(), want)
		}
	}
}
