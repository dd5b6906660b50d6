package log_test

import (
	"hash/crc32"
	"math"
	"slices"
	"strings"
	"testing"

	"triptych/api"
	"triptych/flash"
	"triptych/geo"
	"triptych/log"
	"triptych/record"
)

// dice is numbers from a fixed rule.
type dice struct{ seed uint64 }

// below is a number from 0 to n - 1.
func (d *dice) below(n int) int {
	d.seed = d.seed*6364136223846793005 + 1442695040888963407
	return int(d.seed >> 33 % uint64(n))
}

// noise is n bytes from a fixed rule.
func (d *dice) noise(n int) string {
	b := make([]byte, n)
	for i := range b {
		b[i] = byte(d.below(256))
	}
	return string(b)
}

// tear is a way of being torn.
func (d *dice) tear() flash.Torn { return flash.Torn{Bytes: d.below(65), Mask: byte(d.below(256))} }

// rec is a record that may be appended.
func (d *dice) rec() record.Rec {
	value := d.below(1 << 24)
	if d.below(3) == 0 {
		value = value<<24 | d.below(1<<24)
	}
	return record.Rec{Kind: d.below(126), Slot: d.below(4), No: d.below(65536), Value: value}
}

// recs are so many records that may be appended.
func (d *dice) recs(n int) []record.Rec {
	var l []record.Rec
	for range n {
		l = append(l, d.rec())
	}
	return l
}

// bare are records as they are told: No is 0.
func bare(l ...record.Rec) []record.Rec {
	var m []record.Rec
	for _, r := range l {
		m = append(m, record.Rec{Kind: r.Kind, Slot: r.Slot, Value: r.Value})
	}
	return m
}

// far are numbers that neither a kind nor a slot nor a value nor a page has.
func far() []int {
	return []int{
		math.MinInt, math.MinInt + 1, -1 << 56, -1 << 48, -1 << 32, -1 << 16, -65536, -256, -128, -4, -2, -1,
		1 << 48, 1<<48 + 1, 1 << 56, 1<<56 + 1, 1 << 62, math.MaxInt - 1, math.MaxInt,
	}
}

// shape is a geometry.
func shape(data, parity, stripes int) geo.Geo {
	return geo.Geo{Data: data, Parity: parity, Stripes: stripes}
}

// geos are geometries: small ones, and those at the edges.
func geos() []geo.Geo {
	return []geo.Geo{shape(1, 2, 1), shape(2, 2, 3), shape(3, 3, 2), shape(8, 2, 1), shape(1, 6, 8), shape(5, 4, 6), shape(8, 6, 8)}
}

// log0 is the log's first sector.
func log0(g geo.Geo) int { return 3 * (g.Data + g.Parity) * g.Stripes }

// all is how many sectors a geometry has.
func all(g geo.Geo) int { return log0(g) + 4*4 + 2 }

// spot is where a page of a half's copy lies.
func spot(g geo.Geo, half, copy, n int) int { return (log0(g)+8*half+4*copy)*64 + 16*n }

// highFirst is a number's last n bytes, the highest first.
func highFirst(n, number int) string {
	b := make([]byte, n)
	for i := range b {
		b[n-1-i] = byte(number >> (8 * i))
	}
	return string(b)
}

// number is the number whose bytes these are, the highest first.
func number(s string) int {
	n := 0
	for i := range len(s) {
		n = n*256 + int(s[i])
	}
	return n
}

// sealed is bytes with their sum behind them, as it stands in a page.
func sealed(s string) string {
	return s + highFirst(4, min(int(crc32.ChecksumIEEE([]byte(s))), 1<<32-2))
}

// plain is a record as page n, by arithmetic of the tests' own.
func plain(n int, r record.Rec) string {
	return sealed(string([]byte{byte(r.Kind), byte(r.Slot)}) + highFirst(2, n) + highFirst(6, r.Value) + "\x00\x00")
}

// there is the record of which that is page n, by arithmetic of the tests' own.
func there(n int, page string) (record.Rec, bool) {
	if page[0] > 127 || page[1] > 3 || number(page[2:4]) != n || page[10:12] != "\x00\x00" || sealed(page[:12]) != page {
		return record.Rec{}, false
	}
	return record.Rec{Kind: int(page[0]), Slot: int(page[1]), Value: number(page[4:10])}, true
}

// kept is what a log has.
type kept struct {
	gen   int
	recs  []record.Rec
	room  int
	clean bool
}

// read is a page of a device.
func read(d *flash.Dev, at int) string { return d.Dump(at / 64)[at%64:][:16] }

// inHalf is what a half has, by the tests' own look at the device; its generation is 0, if it doesn't hold.
func inHalf(d *flash.Dev, g geo.Geo, half int) kept {
	k := kept{room: 16, clean: true}
	var recs []record.Rec
	base := 0
	for n := range 16 {
		one, two := read(d, spot(g, half, 0, n)), read(d, spot(g, half, 1, n))
		k.clean = k.clean && one == two
		r, ok := there(n, one)
		if !ok {
			r, ok = there(n, two)
		}
		if !ok || k.room > 16-n { // it is behind the last one
			k.clean = k.clean && one == strings.Repeat("\xff", 16)
			continue
		}
		k.room--
		recs = append(recs, r)
		if base == 0 && r.Kind == 127 {
			base = n
		}
	}
	if base == 0 || recs[0].Kind != 126 || recs[0].Slot != 0 || recs[0].Value != recs[base].Value {
		return kept{}
	}
	k.gen = recs[0].Value
	for n, r := range recs {
		if n != 0 && n != base {
			k.recs = append(k.recs, r)
		}
	}
	return k
}

// inLog is what a device's log has, by the tests' own look; its generation is 0, if there is none.
func inLog(d *flash.Dev, g geo.Geo) kept {
	one, two := inHalf(d, g, 0), inHalf(d, g, 1)
	if two.gen > one.gen {
		return two
	}
	return one
}

// is asks that a log has just that.
func is(t *testing.T, what string, l *log.Log, k kept) {
	t.Helper()
	if l == nil {
		t.Fatal(what, "no log")
	}
	if got := (kept{l.Gen(), l.All(), l.Room(), l.Clean()}); got.gen != k.gen || !slices.Equal(got.recs, k.recs) || got.room != k.room || got.clean != k.clean {
		t.Fatal(what, got, "want", k)
	}
}

// opened is a device's log; it is asked that it has what the tests' own look tells.
func opened(t *testing.T, g geo.Geo, d *flash.Dev) *log.Log {
	t.Helper()
	l, e := log.Open(d, g)
	if e != api.OK {
		t.Fatal(g, e)
	}
	is(t, "Open", l, inLog(d, g))
	return l
}

// formatted is a new device with a log.
func formatted(t *testing.T, g geo.Geo, base ...record.Rec) (*log.Log, *flash.Dev) {
	t.Helper()
	d, e := flash.New(all(g))
	if e != api.OK {
		t.Fatal(g, e)
	}
	l, e := log.Format(d, g, base...)
	if e != api.OK {
		t.Fatal(g, e)
	}
	return l, d
}

// noisy is a device in which each sector is another one, and nothing is blank.
func noisy(t *testing.T, g geo.Geo, seed uint64) *flash.Dev {
	t.Helper()
	d, e := flash.New(all(g))
	if e != api.OK {
		t.Fatal(g, e)
	}
	r := dice{seed}
	for n := range d.Sectors() {
		d.Rot(n*64, []byte(r.noise(64))...)
	}
	return d
}

// down lets a device go down by an erase of its last sector, which is none of the log's.
func down(d *flash.Dev) {
	d.Fuse(0, flash.Torn{})
	d.Erase(d.Sectors() - 1)
}

// put makes a page other bytes, whatever they are, without an erase.
func put(d *flash.Dev, at int, s string) {
	old := read(d, at)
	var by []byte
	for i := range len(s) {
		by = append(by, s[i]^old[i])
	}
	d.Rot(at, by...)
}

// dump is all sectors of a device.
func dump(d *flash.Dev) []string {
	var l []string
	for n := range d.Sectors() {
		l = append(l, d.Dump(n))
	}
	return l
}

// isAs asks that a device is as it was.
func isAs(t *testing.T, what string, d *flash.Dev, before []string) {
	t.Helper()
	for n, s := range before {
		if d.Dump(n) != s {
			t.Fatalf("%s: sector %d is %q, not %q", what, n, d.Dump(n), s)
		}
	}
}

// step is an erase of a sector, or a program of a page.
type step struct {
	sector int
	at     int
	page   string
}

// laying are the steps that lay a page of a half.
func laying(g geo.Geo, half, n int, r record.Rec) []step {
	return []step{{at: spot(g, half, 0, n), page: plain(n, r)}, {at: spot(g, half, 1, n), page: plain(n, r)}}
}

// wiping are the steps that erase a half.
func wiping(g geo.Geo, half int) []step {
	var l []step
	for i := range 8 {
		l = append(l, step{sector: log0(g) + 8*half + i})
	}
	return l
}

// compacting are the steps by which a half is begun anew.
func compacting(g geo.Geo, half, gen int, base ...record.Rec) []step {
	l := append(wiping(g, half), laying(g, half, 0, record.Rec{Kind: 126, Value: gen})...)
	for i, r := range base {
		l = append(l, laying(g, half, i+1, r)...)
	}
	return append(l, laying(g, half, len(base)+1, record.Rec{Kind: 127, Value: gen})...)
}

// done does steps one by one, up to the first that can't be done.
func done(d *flash.Dev, l []step) api.Errno {
	for _, s := range l {
		e := api.OK
		if s.page == "" {
			e = d.Erase(s.sector)
		} else {
			e = d.Program(s.at, s.page)
		}
		if e != api.OK {
			return e
		}
	}
	return api.OK
}

// does asks that a call does just these steps, in this order, and leaves what they leave wherever it is torn.
func does(t *testing.T, what string, d *flash.Dev, steps []step, call func(d *flash.Dev) api.Errno) {
	t.Helper()
	r := dice{uint64(len(steps))}
	for left := -1; left <= len(steps); left++ {
		torn := r.tear()
		mine, its := d.Copy(), d.Copy()
		mine.Fuse(left, torn)
		its.Fuse(left, torn)
		want, got := done(mine, steps), call(its)
		if want != got || mine.Down() != its.Down() {
			t.Fatal(what, left, want, got, mine.Down(), its.Down())
		}
		isAs(t, what, its, dump(mine))
		for n := range mine.Sectors() {
			if mine.Wear(n) != its.Wear(n) {
				t.Fatal(what, left, n, mine.Wear(n), its.Wear(n))
			}
		}
	}
}

// P15.1: the chapter's example.
func TestExample(t *testing.T) {
	g := shape(2, 2, 3)
	l, d := formatted(t, g)
	if e := l.Append(record.Rec{Kind: 1}); e != api.OK {
		t.Fatal(e)
	}
	m, e := log.Open(d, g)
	if e != api.OK || !slices.Equal(m.All(), []record.Rec{{Kind: 1}}) {
		t.Error(m.All(), e)
	}
}

// P15.1: a log's pages, written out: where they lie, what they are, and that all else is blank.
func TestWritten(t *testing.T) {
	g := shape(1, 2, 1)
	l, d := formatted(t, g, record.Rec{Kind: 5, Slot: 1, No: 77, Value: 0x123456789abc})
	if e := l.Append(record.Rec{Kind: 125, Slot: 3, No: 1, Value: 1<<48 - 1}); e != api.OK {
		t.Fatal(e)
	}
	pages := sealed("\x7e\x00\x00\x00\x00\x00\x00\x00\x00\x01\x00\x00") +
		sealed("\x05\x01\x00\x01\x12\x34\x56\x78\x9a\xbc\x00\x00") +
		sealed("\x7f\x00\x00\x02\x00\x00\x00\x00\x00\x01\x00\x00") +
		sealed("\x7d\x03\x00\x03\xff\xff\xff\xff\xff\xff\x00\x00")
	for n := range d.Sectors() {
		want := strings.Repeat("\xff", 64)
		if n == 9 || n == 13 {
			want = pages
		}
		if d.Dump(n) != want {
			t.Errorf("%d: %q", n, d.Dump(n))
		}
	}
	if log.Pages != 16 {
		t.Error(log.Pages)
	}
}

// P15.1: Format erases half 1, then half 0, and lays the base, whatever stood there; nothing else is touched. What is torn is left so.
func TestFormat(t *testing.T) {
	r := dice{1}
	for i, g := range geos() {
		for n := range 13 {
			if i > 1 && n%6 != i%6 { // some are enough
				continue
			}
			base := r.recs(n)
			d := noisy(t, g, uint64(i))
			does(t, "Format", d, append(wiping(g, 1), compacting(g, 0, 1, base...)...), func(d *flash.Dev) api.Errno {
				l, e := log.Format(d, g, base...)
				if e != api.OK {
					if l != nil {
						t.Fatal("a log beside an error")
					}
					return e
				}
				k := kept{1, bare(base...), 14 - n, true}
				is(t, "Format", l, k)
				is(t, "Format, opened", opened(t, g, d), k)
				return e
			})
		}
	}
}

// P15.1: a log that was there ahead of Format is gone, whatever its generation.
func TestFormatAgain(t *testing.T) {
	r := dice{2}
	g := shape(1, 2, 1)
	for n := range 5 {
		l, d := formatted(t, g, r.recs(2)...)
		for range n {
			if e := l.Compact(r.recs(3)...); e != api.OK {
				t.Fatal(e)
			}
		}
		base := r.recs(n)
		l, e := log.Format(d, g, base...)
		if e != api.OK {
			t.Fatal(e)
		}
		is(t, "Format", l, kept{1, bare(base...), 14 - n, true})
		is(t, "Format, opened", opened(t, g, d), kept{1, bare(base...), 14 - n, true})
	}
}

// P15.1: without a device that has sectors enough, and a geometry that is right, there is no log; that is asked ahead of all else.
func TestNoDevice(t *testing.T) {
	wrong := []record.Rec{{Kind: 126}}
	refused := func(d *flash.Dev, g geo.Geo) {
		t.Helper()
		if l, e := log.Open(d, g); l != nil || e != api.ErrArg {
			t.Error("Open", g, l, e)
		}
		for _, base := range [][]record.Rec{nil, {{Kind: 1}}, wrong, make([]record.Rec, 13)} {
			if l, e := log.Format(d, g, base...); l != nil || e != api.ErrArg {
				t.Error("Format", g, l, e)
			}
		}
	}
	for _, g := range geos() {
		refused(nil, g)
		refused(&flash.Dev{}, g)
		for _, n := range []int{1, log0(g), all(g) - 2, all(g) - 1} {
			d, _ := flash.New(n)
			refused(d, g)
			down(d)
			refused(d, g)
		}
		for _, n := range []int{all(g), all(g) + 1, 512} {
			d, _ := flash.New(n)
			if l, e := log.Open(d, g); l != nil || e != api.ErrNone {
				t.Error(g, n, l, e)
			}
			if _, e := log.Format(d, g); e != api.OK {
				t.Error(g, n, e)
			}
			opened(t, g, d)
		}
	}
	d, _ := flash.New(512)
	for _, n := range append(far(), 0, 9, 10) {
		refused(d, shape(n, 2, 1))
		refused(d, shape(1, n, 1))
		refused(d, shape(1, 2, n))
	}
	refused(d, shape(1, 1, 1))
	refused(d, shape(1, 7, 1))
	refused(d, geo.Geo{})
	isAs(t, "no log", d, slices.Repeat([]string{strings.Repeat("\xff", 64)}, 512))
}

// strange are records that may not be appended.
func strange() []record.Rec {
	l := []record.Rec{{Kind: 126}, {Kind: 127}, {Kind: 126, Value: 1}, {Kind: 127, Value: 1}, {Kind: 128}, {Kind: 255}, {Kind: 256 + 5}, {Slot: 4}, {Slot: 5}, {Slot: 256}}
	for _, n := range far() {
		l = append(l, record.Rec{Kind: n}, record.Rec{Slot: n}, record.Rec{Value: n}, record.Rec{Kind: n, Slot: n, No: n, Value: n})
	}
	return l
}

// P15.1: a base with a record that may not be appended is ErrArg, one of more than 12 is ErrFull, and nothing is laid; that is asked in this order, and ahead of the device.
func TestBaseWrong(t *testing.T) {
	r := dice{3}
	g := shape(1, 2, 1)
	l, d := formatted(t, g, r.recs(4)...)
	k := kept{1, l.All(), 10, true}
	before := dump(d)
	refused := func(want api.Errno, base ...record.Rec) {
		t.Helper()
		ops := d.Ops()
		if e := l.Compact(base...); e != want {
			t.Fatal("Compact", base, e)
		}
		if m, e := log.Format(d, g, base...); m != nil || e != want {
			t.Fatal("Format", base, e)
		}
		if d.Ops() != ops {
			t.Fatal(base, d.Ops()-ops)
		}
		isAs(t, "a base that is wrong", d, before)
		is(t, "a base that is wrong", l, k)
	}
	for range 2 {
		for _, x := range strange() {
			for _, n := range []int{0, 1, 11, 12, 13, 20} {
				refused(api.ErrArg, slices.Insert(r.recs(n), r.below(n+1), x)...)
			}
		}
		for _, n := range []int{13, 14, 16, 17, 100, 65536} {
			refused(api.ErrFull, r.recs(n)...)
		}
		down(d)
		before = dump(d)
	}
	if e := l.Compact(); e != api.ErrDown {
		t.Error(e)
	}
	if m, e := log.Format(d, g); m != nil || e != api.ErrDown {
		t.Error(m, e)
	}
}

// P15.1: what is appended is laid on the next page, the first copy's first, and nothing else is touched, up to the last page; then it is full. Whatever No is, the page has its own.
func TestAppend(t *testing.T) {
	r := dice{4}
	for i, g := range geos() {
		for n := range 13 {
			if i > 0 && n%6 != i%6 {
				continue
			}
			base := r.recs(n)
			d := noisy(t, g, uint64(n))
			l, e := log.Format(d, g, base...)
			if e != api.OK {
				t.Fatal(e)
			}
			k := kept{1, bare(base...), 14 - n, true}
			for k.room > 0 {
				x := r.rec()
				x.No = append(far(), 0, 1, 16-k.room, 65535, 65536)[r.below(24)]
				does(t, "Append", d, laying(g, 0, 16-k.room, x), func(d *flash.Dev) api.Errno { return opened(t, g, d).Append(x) })
				if e := l.Append(x); e != api.OK {
					t.Fatal(g, n, e)
				}
				k.recs = append(k.recs, bare(x)...)
				k.room--
				is(t, "Append", l, k)
				is(t, "Append, opened", opened(t, g, d), k)
			}
			before := dump(d)
			if e := l.Append(r.rec()); e != api.ErrFull {
				t.Fatal(g, n, e)
			}
			is(t, "full", l, k)
			isAs(t, "full", d, before)
		}
	}
}

// P15.1: each number of a record is kept, at its edges and between.
func TestAppendNumbers(t *testing.T) {
	g := shape(1, 2, 1)
	var list []record.Rec
	for n := range 126 {
		list = append(list, record.Rec{Kind: n}, record.Rec{Kind: n, Slot: n % 4, Value: n << 40})
	}
	for n := range 48 {
		list = append(list, record.Rec{Slot: 3, Value: 1 << n}, record.Rec{Kind: 9, Slot: 2, Value: 1<<48 - 1<<n})
	}
	l, d := formatted(t, g)
	for _, x := range list {
		if l.Room() == 0 {
			if e := l.Compact(l.All()[10:]...); e != api.OK {
				t.Fatal(e)
			}
		}
		if e := l.Append(x); e != api.OK {
			t.Fatal(x, e)
		}
		if m := opened(t, g, d).All(); m[len(m)-1] != x {
			t.Fatal(x, m)
		}
	}
}

// P15.1: a record that may not be appended is ErrArg, also where no page is left, and where the device is down; that no page is left is asked ahead of the device.
func TestAppendWrong(t *testing.T) {
	r := dice{5}
	g := shape(1, 2, 1)
	for _, n := range []int{0, 5, 12} {
		for full := range 2 {
			l, d := formatted(t, g, r.recs(n)...)
			for full == 1 && l.Room() > 0 {
				if e := l.Append(r.rec()); e != api.OK {
					t.Fatal(e)
				}
			}
			for up := range 2 {
				if up == 1 {
					down(d)
				}
				before, ops, k := dump(d), d.Ops(), kept{l.Gen(), l.All(), l.Room(), l.Clean()}
				for _, x := range strange() {
					if e := l.Append(x); e != api.ErrArg {
						t.Fatal(n, x, e)
					}
				}
				if e := l.Append(record.Rec{Kind: 125}); full == 1 && e != api.ErrFull || full == 0 && up == 1 && e != api.ErrDown {
					t.Fatal(n, full, up, e)
				} else if full == 1 || up == 1 {
					is(t, "Append", l, kept{k.gen, k.recs, k.room, k.clean && full == 1})
					isAs(t, "Append", d, before)
				}
				if full == 1 && d.Ops() != ops {
					t.Fatal(d.Ops() - ops)
				}
			}
		}
	}
}

// P15.1: Compact erases the other half, and lays the base there, with the generation one more, whatever stood there; the log's half, and all else, is untouched.
func TestCompact(t *testing.T) {
	r := dice{6}
	for i, g := range geos() {
		d := noisy(t, g, uint64(i))
		l, e := log.Format(d, g, r.recs(r.below(13))...)
		if e != api.OK {
			t.Fatal(e)
		}
		for n := range 26 {
			for range r.below(l.Room() + 1) {
				if e := l.Append(r.rec()); e != api.OK {
					t.Fatal(e)
				}
			}
			base := r.recs(n % 13)
			for i := range base {
				base[i].No = append(far(), 0, 7, 65535, 65536)[r.below(23)]
			}
			half := 1 - n%2
			if n < 14 && n%7 == i {
				does(t, "Compact", d, compacting(g, half, n+2, base...), func(d *flash.Dev) api.Errno { return opened(t, g, d).Compact(base...) })
			}
			if e := l.Compact(base...); e != api.OK {
				t.Fatal(g, n, e)
			}
			k := kept{n + 2, bare(base...), 14 - len(base), true}
			is(t, "Compact", l, k)
			is(t, "Compact, opened", opened(t, g, d), k)
		}
	}
}

// forge makes a half what a log there would be.
func forge(d *flash.Dev, g geo.Geo, half, gen int, base, later []record.Rec) {
	list := slices.Concat([]record.Rec{{Kind: 126, Value: gen}}, base, []record.Rec{{Kind: 127, Value: gen}}, later)
	for copy := range 2 {
		for n := range 16 {
			page := strings.Repeat("\xff", 16)
			if n < len(list) {
				page = plain(n, list[n])
			}
			put(d, spot(g, half, copy, n), page)
		}
	}
}

// P15.1: the half with the greater generation is the log's, up to the greatest that there may be; the first one, if both have the same.
func TestGenerations(t *testing.T) {
	r := dice{7}
	g := shape(1, 2, 1)
	gens := []int{0, 1, 2, 3, 255, 256, 65536, 1 << 31, 1 << 32, 1<<47 + 1, 1<<48 - 2, 1<<48 - 1}
	for _, one := range gens {
		for _, two := range gens {
			d := noisy(t, g, 9)
			base, later := r.recs(2), r.recs(3)
			forge(d, g, 0, one, base, later)
			forge(d, g, 1, two, base[:1], later[:1])
			k := kept{one, bare(append(base, later...)...), 9, true}
			if two > one {
				k = kept{two, bare(base[0], later[0]), 12, true}
			}
			if k.gen == 0 { // there is none from 0 on
				if l, e := log.Open(d, g); l != nil || e != api.ErrNone {
					t.Fatal(one, two, l, e)
				}
				continue
			}
			l := opened(t, g, d)
			is(t, "Open", l, k)
			generation(t, l, d, g, k)
		}
	}
}

// generation asks that a log goes on: with the generation one more in the other half, or not at all behind the greatest.
func generation(t *testing.T, l *log.Log, d *flash.Dev, g geo.Geo, k kept) {
	t.Helper()
	before, next := dump(d), k
	want := api.OK
	if k.gen == 1<<48-1 {
		want = api.ErrFull
		if e := l.Compact(record.Rec{Kind: 126}); e != api.ErrArg {
			t.Fatal(e)
		}
	} else {
		next = kept{k.gen + 1, []record.Rec{{Kind: 7}}, 13, true}
	}
	if e := l.Compact(record.Rec{Kind: 7}); e != want {
		t.Fatal(k.gen, e)
	}
	if want != api.OK {
		isAs(t, "Compact", d, before)
	}
	is(t, "Compact", l, next)
	is(t, "Compact, opened", opened(t, g, d), next)
	if e := l.Append(record.Rec{Kind: 8}); e != api.OK {
		t.Fatal(e)
	}
	is(t, "Append, opened", opened(t, g, d), kept{next.gen, append(next.recs, record.Rec{Kind: 8}), next.room - 1, true})
}

// P15.1: when a half holds, and what is in it; each half alone is laid by hand, in one copy or in both.
func TestHolds(t *testing.T) {
	begin, end := record.Rec{Kind: 126, Value: 5}, record.Rec{Kind: 127, Value: 5}
	a, b, c := record.Rec{Kind: 1, Slot: 2, Value: 3}, record.Rec{Kind: 125, Value: 9}, record.Rec{}
	none := record.Rec{Kind: -1} // a page that holds none
	for _, x := range []struct {
		name string
		list []record.Rec
		recs []record.Rec
		gen  int
	}{
		{"no base", []record.Rec{begin, end}, nil, 5},
		{"a base", []record.Rec{begin, a, b, end}, []record.Rec{a, b}, 5},
		{"later ones", []record.Rec{begin, a, end, b, c}, []record.Rec{a, b, c}, 5},
		{"up to the first that holds none", []record.Rec{begin, a, end, b, none, c}, []record.Rec{a, b}, 5},
		{"nothing but the beginning", []record.Rec{begin}, nil, 0},
		{"no end", []record.Rec{begin, a, b, c}, nil, 0},
		{"no beginning", []record.Rec{none, a, end}, nil, 0},
		{"another beginning", []record.Rec{a, b, end}, nil, 0},
		{"the end at the beginning", []record.Rec{end, end}, nil, 0},
		{"a page between holds none", []record.Rec{begin, a, none, end}, nil, 0},
		{"another end's value", []record.Rec{begin, a, {Kind: 127, Value: 6}}, nil, 0},
		{"the first end counts", []record.Rec{begin, {Kind: 127, Value: 4}, end}, nil, 0},
		{"the first end counts, also ahead of others", []record.Rec{begin, a, end, b, {Kind: 127, Value: 6}, end}, []record.Rec{a, b, {Kind: 127, Value: 6}, end}, 5},
		{"a beginning in the base", []record.Rec{begin, begin, {Kind: 126, Value: 6}, end}, []record.Rec{begin, {Kind: 126, Value: 6}}, 5},
		{"the generation 0", []record.Rec{{Kind: 126}, a, {Kind: 127}}, nil, 0},
		{"a beginning's slot", []record.Rec{{Kind: 126, Slot: 1, Value: 5}, a, end}, nil, 0},
		{"an end's slot", []record.Rec{begin, a, {Kind: 127, Slot: 1, Value: 5}, b}, []record.Rec{a, b}, 5},
		{"a base up to the last page", slices.Concat([]record.Rec{begin}, slices.Repeat([]record.Rec{a}, 14), []record.Rec{end}), slices.Repeat([]record.Rec{a}, 14), 5},
		{"no end up to the last page", slices.Concat([]record.Rec{begin}, slices.Repeat([]record.Rec{a}, 15)), nil, 0},
		{"full", slices.Concat([]record.Rec{begin, end}, slices.Repeat([]record.Rec{b}, 14)), slices.Repeat([]record.Rec{b}, 14), 5},
	} {
		for how := range 8 {
			laid(t, x.name, how, x.list, kept{gen: x.gen, recs: x.recs})
		}
	}
}

// laid lays pages in one half, in both copies or in one, and asks what the log has then.
func laid(t *testing.T, name string, how int, list []record.Rec, k kept) {
	t.Helper()
	g := shape(1, 2, 1)
	d, _ := flash.New(all(g))
	r := dice{uint64(how)}
	half := how % 2
	k.clean = true
	for n, x := range list {
		for copy := range 2 {
			if x.Kind >= 0 && (how < 2 || how/2 == 1+copy || how >= 6 && copy == r.below(2)) {
				put(d, spot(g, half, copy, n), plain(n, x))
			}
		}
		k.clean = k.clean && x.Kind >= 0 && how < 2
	}
	if how >= 6 { // a page that was laid in neither copy is laid in one
		for n, x := range list {
			if x.Kind >= 0 && read(d, spot(g, half, 0, n)) == read(d, spot(g, half, 1, n)) {
				put(d, spot(g, half, n%2, n), plain(n, x))
			}
		}
		k.clean = false
	}
	before := dump(d)
	l, e := log.Open(d, g)
	isAs(t, name, d, before)
	if k.gen == 0 {
		if l != nil || e != api.ErrNone {
			t.Fatal(name, how, l, e)
		}
		return
	}
	if e != api.OK {
		t.Fatal(name, how, e)
	}
	k.room = 14 - len(k.recs)
	is(t, name, l, k)
}

// P15.1: a page whose No is another one is none, wherever it is right else; then the other copy's page counts. Of two that are right, the first copy's does.
func TestPageNo(t *testing.T) {
	g := shape(1, 2, 1)
	one, two := record.Rec{Kind: 3, Value: 1}, record.Rec{Kind: 3, Value: 2}
	for n := range 4 { // 126, base, 127, later
		for _, no := range []int{n, n + 1, n ^ 1, n + 256, 65535} {
			_, d := formatted(t, g, one)
			put(d, spot(g, 0, 0, 3), plain(3, one))
			put(d, spot(g, 0, 1, 3), plain(3, one))
			x, _ := there(n, read(d, spot(g, 0, 0, n)))
			put(d, spot(g, 0, 0, n), plain(no, x))
			is(t, "the second copy's", opened(t, g, d), kept{1, []record.Rec{one, one}, 12, no == n})
			put(d, spot(g, 0, 1, n), plain(no, x))
			l, e := log.Open(d, g)
			switch {
			case no == n:
				is(t, "both", l, kept{1, []record.Rec{one, one}, 12, true})
			case n == 3:
				is(t, "neither", l, kept{1, []record.Rec{one}, 13, false})
			case l != nil || e != api.ErrNone:
				t.Fatal(n, no, l, e)
			}
		}
	}
	_, d := formatted(t, g, one)
	put(d, spot(g, 0, 1, 1), plain(1, two))
	is(t, "the first copy's", opened(t, g, d), kept{1, []record.Rec{one}, 13, false})
	put(d, spot(g, 0, 0, 1), plain(2, two))
	is(t, "the second copy's, as the first one's is none", opened(t, g, d), kept{1, []record.Rec{two}, 13, false})
}

// P15.1: pages of all kinds thrown together: what is told is what the tests' own look tells, and nothing is written.
func TestOpen(t *testing.T) {
	r := dice{8}
	met := map[string]int{}
	for range 6000 {
		g := geos()[r.below(2)]
		d, _ := flash.New(all(g))
		for half := range 2 {
			throw(&r, d, g, half)
		}
		before := dump(d)
		k := inLog(d, g)
		l, e := log.Open(d, g)
		isAs(t, "Open", d, before)
		if k.gen == 0 {
			met["none"]++
			if l != nil || e != api.ErrNone {
				t.Fatal(l, e)
			}
			continue
		}
		if e != api.OK {
			t.Fatal(e)
		}
		is(t, "Open", l, k)
		met["some"]++
		if k.clean {
			met["clean"]++
		}
		if inHalf(d, g, 0).gen != 0 && inHalf(d, g, 1).gen != 0 {
			met["both"]++
		}
	}
	if met["none"] < 400 || met["some"] < 500 || met["clean"] < 50 || met["both"] < 50 {
		t.Error(met)
	}
}

// throw makes a half's pages those of a log, some of which are others.
func throw(r *dice, d *flash.Dev, g geo.Geo, half int) {
	base := r.below(8)
	forge(d, g, half, 1+r.below(3), r.recs(base), r.recs(r.below(15-base)))
	for range r.below(9) {
		n, copy := r.below(16), r.below(3)
		page := r.noise(16)
		switch r.below(7) {
		case 0:
			page = strings.Repeat("\xff", 16)
		case 1:
			page = plain(n, record.Rec{Kind: 126 + r.below(2), Slot: r.below(2), Value: r.below(4)})
		case 2:
			page = plain(n, r.rec())
		case 3:
			page = plain(n+1, r.rec())
		case 4:
			page = read(d, spot(g, half, 0, n))[:r.below(16)] + page
		}
		for i := range 2 {
			if copy == i || copy == 2 {
				put(d, spot(g, half, i, n), page[:16])
			}
		}
	}
}

// P15.1: a log is clean just if no bit of its half is turned; the other half doesn't matter.
func TestClean(t *testing.T) {
	r := dice{9}
	g := shape(1, 2, 1)
	l, d := formatted(t, g, r.recs(3)...)
	for range 4 {
		if e := l.Append(r.rec()); e != api.OK {
			t.Fatal(e)
		}
	}
	k := kept{1, l.All(), 7, true}
	for at := range 16 * 64 {
		d.Rot(spot(g, 0, 0, 0)+at, 1<<(at%8))
		k.clean = at >= 8*64
		is(t, "Clean", opened(t, g, d), k)
		d.Rot(spot(g, 0, 0, 0)+at, 1<<(at%8))
	}
	// Both copies are alike, and a page behind is no record's, but not blank.
	for n := 9; n < 16; n++ {
		for copy := range 2 {
			put(d, spot(g, 0, copy, n), strings.Repeat("\x0f", 16))
		}
		k.clean = false
		is(t, "behind", opened(t, g, d), k)
		for copy := range 2 {
			put(d, spot(g, 0, copy, n), strings.Repeat("\xff", 16))
		}
	}
	for n := range log0(g) { // nor do the slots
		d.Rot(n*64, 1)
	}
	k.clean = true
	is(t, "slots", opened(t, g, d), k)
}

// P15.1: whether it is clean is told as it was opened; Append doesn't change that, Compact makes it so.
func TestCleanKept(t *testing.T) {
	g := shape(1, 2, 1)
	l, d := formatted(t, g)
	d.Rot(spot(g, 0, 0, 1), 1)
	if !l.Clean() {
		t.Error("it was when it was made")
	}
	l = opened(t, g, d)
	d.Rot(spot(g, 0, 0, 1), 1)
	if l.Clean() {
		t.Error("it wasn't when it was opened")
	}
	if e := l.Append(record.Rec{Kind: 1}); e != api.OK || l.Clean() {
		t.Error(e, l.Clean())
	}
	if e := l.Compact(); e != api.OK || !l.Clean() {
		t.Error(e, l.Clean())
	}
}

// P15.1: a device that is down tells so, and the log isn't clean then; it has what it had.
func TestDown(t *testing.T) {
	r := dice{10}
	g := shape(1, 2, 1)
	for n := range 2 {
		l, d := formatted(t, g, r.recs(4)...)
		k := kept{1, l.All(), 10, false}
		down(d)
		before := dump(d)
		e := l.Append(r.rec())
		if n == 1 {
			e = l.Compact(r.recs(2)...)
		}
		if e != api.ErrDown {
			t.Fatal(n, e)
		}
		is(t, "down", l, k)
		if m, e := log.Open(d, g); m != nil || e != api.ErrDown {
			t.Fatal(m, e)
		}
		if m, e := log.Format(d, g); m != nil || e != api.ErrDown {
			t.Fatal(m, e)
		}
		isAs(t, "down", d, before)
		d.PowerOn()
		k.clean = true
		is(t, "up", opened(t, g, d), k)
	}
}

// P15.1: a sector that is locked is told, too; what comes ahead of it is done.
func TestLocked(t *testing.T) {
	r := dice{11}
	g := shape(1, 2, 1)
	for n := range 16 {
		d := noisy(t, g, 3)
		d.Lock(log0(g)+n, log0(g)+n+1)
		base := r.recs(12)
		does(t, "Format", d, append(wiping(g, 1), compacting(g, 0, 1, base...)...), func(d *flash.Dev) api.Errno {
			l, e := log.Format(d, g, base...)
			if l != nil {
				t.Fatal(n, l)
			}
			return e
		})
		l, d := formatted(t, g, base[:5]...)
		d.Lock(log0(g)+n, log0(g)+n+1)
		does(t, "Append", d, laying(g, 0, 7, base[0]), func(d *flash.Dev) api.Errno { return opened(t, g, d).Append(base[0]) })
		does(t, "Compact", d, compacting(g, 1, 2, base...), func(d *flash.Dev) api.Errno { return opened(t, g, d).Compact(base...) })
		k := kept{1, bare(base[:5]...), 9, true}
		if n == 1 || n == 5 { // there lies page 7, in the first copy and in the second one
			if e := l.Append(base[0]); e != api.ErrLock {
				t.Fatal(n, e)
			}
			k.clean = false
			is(t, "Append", l, k)
			if n == 5 {
				k.recs, k.room = append(k.recs, bare(base[0])...), 8
			}
			k.clean = n == 1
			is(t, "Append, opened", opened(t, g, d), k)
		}
		if n >= 8 {
			if e := l.Compact(base...); e != api.ErrLock {
				t.Fatal(n, e)
			}
			k.clean = false
			is(t, "Compact", l, k)
			k.clean = true
			is(t, "Compact, opened", opened(t, g, d), k)
		}
	}
}

// P15.1: of no log all are refused, and nothing is told.
func TestNil(t *testing.T) {
	for _, l := range []*log.Log{nil, {}} {
		for _, x := range append(strange(), record.Rec{}, record.Rec{Kind: 5, Slot: 1, Value: 9}) {
			if e := l.Append(x); e != api.ErrArg {
				t.Error(x, e)
			}
			if e := l.Compact(x); e != api.ErrArg {
				t.Error(x, e)
			}
		}
		if e := l.Compact(); e != api.ErrArg {
			t.Error(e)
		}
		if e := l.Compact(make([]record.Rec, 13)...); e != api.ErrArg {
			t.Error(e)
		}
		if l.All() != nil || l.Clean() || l.Room() != 0 || l.Gen() != 0 {
			t.Error(l.All(), l.Clean(), l.Room(), l.Gen())
		}
	}
}

// Rule 2 of the document: no argument is written into, not even behind its end, nor kept, and no answer shares memory with what is kept.
func TestNothingShared(t *testing.T) {
	r := dice{12}
	g := shape(1, 2, 1)
	base := r.recs(8)
	seen := slices.Clone(base)
	l, d := formatted(t, g, base[:3]...)
	check := func(n int) {
		t.Helper()
		if !slices.Equal(base, seen) {
			t.Fatal("an argument was written into")
		}
		clear(base)
		is(t, "an argument", l, kept{l.Gen(), bare(seen[:n]...), 14 - n, true})
		copy(base, seen)
		clear(l.All())
		is(t, "an answer", l, kept{l.Gen(), bare(seen[:n]...), 14 - n, true})
	}
	check(3)
	if e := l.Compact(base[:5]...); e != api.OK {
		t.Fatal(e)
	}
	check(5)
	one := l.All()
	if e := l.Append(base[5]); e != api.OK {
		t.Fatal(e)
	}
	check(6)
	if len(append(one, record.Rec{Kind: 99})) != 6 {
		t.Fatal(one)
	}
	check(6)
	if m := opened(t, g, d).All(); !slices.Equal(m, l.All()) {
		t.Error(m)
	}
	if e := l.Compact(l.All()...); e != api.OK {
		t.Fatal(e)
	}
	check(6)
}

// P15.1: a log uses its own sectors alone, and what lies on the others doesn't matter.
func TestOthers(t *testing.T) {
	r := dice{13}
	for i, g := range geos() {
		d := noisy(t, g, uint64(i))
		before := dump(d)
		l, e := log.Format(d, g, r.recs(3)...)
		if e != api.OK {
			t.Fatal(e)
		}
		for range 40 {
			if l.Append(r.rec()) == api.ErrFull {
				if e := l.Compact(r.recs(5)...); e != api.OK {
					t.Fatal(e)
				}
			}
		}
		for n, s := range before {
			if (n < log0(g) || n >= log0(g)+16) && d.Dump(n) != s {
				t.Fatal(g, n)
			}
		}
	}
}
