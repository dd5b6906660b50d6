package area_test

import (
	"crypto/sha256"
	"hash/crc32"
	"math"
	"slices"
	"strings"
	"testing"

	"triptych/api"
	"triptych/area"
	"triptych/flash"
	"triptych/geo"
	"triptych/head"
	"triptych/stripe"
)

// noise is n bytes from a fixed rule, unlike for unlike seeds.
func noise(n int, seed uint64) string {
	b := make([]byte, n)
	for i := range b {
		seed = seed*6364136223846793005 + 1442695040888963407
		b[i] = byte(seed >> 56)
	}
	return string(b)
}

// dice is numbers from a fixed rule.
type dice struct{ seed uint64 }

// below is a number from 0 to n - 1.
func (d *dice) below(n int) int {
	d.seed = d.seed*6364136223846793005 + 1442695040888963407
	return int(d.seed >> 33 % uint64(n))
}

// some are so many numbers below n, unlike and rising.
func (d *dice) some(many, n int) []int {
	l := count(0, n)
	for len(l) > many {
		at := d.below(len(l))
		l = slices.Delete(l, at, at+1)
	}
	return l
}

// count is the numbers from .. to - 1.
func count(from, to int) []int {
	var l []int
	for i := from; i < to; i++ {
		l = append(l, i)
	}
	return l
}

// far are numbers that neither a slot nor a stripe nor a sector has.
func far() []int {
	return []int{
		math.MinInt, math.MinInt + 1, -1 << 32, -1 << 31, -65536, -256, -3, -2, -1,
		14, 15, 16, 255, 256, 65536, 1 << 31, 1 << 32, 1<<32 + 1, 1 << 58, 1 << 60, math.MaxInt - 1, math.MaxInt,
	}
}

// product is the product of two bytes of the field, worked out bit by bit.
func product(a, b byte) byte {
	p := 0
	for i := range 8 {
		if b>>i&1 == 1 {
			p ^= int(a) << i
		}
	}
	for i := 14; i >= 8; i-- {
		if p>>i&1 == 1 {
			p ^= 0x11d << (i - 8)
		}
	}
	return byte(p)
}

// least is the polynomial that is 0 at so many powers of x, from 1 on, the highest first.
func least(parity int) []byte {
	l := []byte{1}
	x := byte(1)
	for range parity {
		next := append(slices.Clone(l), 0)
		for i, b := range l {
			next[i+1] ^= product(b, x)
		}
		l = next
		x = product(x, 2)
	}
	return l
}

// rest is what is left of the data's bytes, noughts behind them, divided by a polynomial: their parity.
func rest(data, by []byte) []byte {
	w := append(slices.Clone(data), make([]byte, len(by)-1)...)
	for i := range data {
		top := w[i]
		for j, b := range by {
			w[i+j] ^= product(top, b)
		}
	}
	return w[len(data):]
}

// sealed is a block's sector.
func sealed(b string) string {
	n := crc32.ChecksumIEEE([]byte(b))
	return b + string([]byte{byte(n >> 24), byte(n >> 16), byte(n >> 8), byte(n)})
}

// encoded is a stripe's sectors.
func encoded(data []string, parity int) []string {
	by := least(parity)
	all := make([][]byte, len(data)+parity)
	for i := range all {
		all[i] = make([]byte, 60)
	}
	for at := range 60 {
		w := make([]byte, len(data))
		for i, b := range data {
			w[i] = b[at]
		}
		for i, b := range append(w, rest(w, by)...) {
			all[i][at] = b
		}
	}
	var l []string
	for _, b := range all {
		l = append(l, sealed(string(b)))
	}
	return l
}

// headed is a head's bytes.
func headed(h head.Head) string {
	b := []byte("TRIP")
	for _, n := range h.Version {
		b = append(b, byte(n/256), byte(n%256))
	}
	b = append(b, byte(h.Length>>24), byte(h.Length>>16), byte(h.Length>>8), byte(h.Length))
	b = append(b, h.Hash[:]...)
	return string(append(b, 0, 0))
}

// top is an image's head.
func top(v api.Version, image string) head.Head {
	return head.Head{Version: v, Length: len(image), Hash: sha256.Sum256([]byte(image))}
}

// cut is a text's blocks: as many as a slot has.
func cut(g geo.Geo, text string) []string {
	text += strings.Repeat("\x00", 60*g.Data*g.Stripes-len(text))
	var l []string
	for ; text != ""; text = text[60:] {
		l = append(l, text[:60])
	}
	return l
}

// place is where a sector lies.
func place(g geo.Geo, slot, at, i int) int {
	return slot*(g.Data+g.Parity)*g.Stripes + i*g.Stripes + at
}

// all is how many sectors a geometry has.
func all(g geo.Geo) int { return 3*(g.Data+g.Parity)*g.Stripes + 4*4 + 2 }

// room is how many bytes an image may have.
func room(g geo.Geo) int { return 60*g.Data*g.Stripes - 48 }

// filled is what a slot's sectors are when a text is filled in, by their places.
func filled(g geo.Geo, slot int, text string) map[int]string {
	m := map[int]string{}
	blocks := cut(g, text)
	for at := range g.Stripes {
		for i, s := range encoded(blocks[at*g.Data:][:g.Data], g.Parity) {
			m[place(g, slot, at, i)] = s
		}
	}
	return m
}

// blocksOf are texts of 60 bytes as blocks.
func blocksOf(l ...string) []api.Block {
	var m []api.Block
	for _, s := range l {
		m = append(m, api.Block([]byte(s)))
	}
	return m
}

// textsOf are blocks as texts.
func textsOf(l ...api.Block) []string {
	var m []string
	for _, b := range l {
		m = append(m, string(b[:]))
	}
	return m
}

// someBlocks are blocks from a fixed rule.
func someBlocks(n int, seed uint64) []api.Block {
	var l []api.Block
	for i := range n {
		l = append(l, blocksOf(noise(60, seed*100+uint64(i)))...)
	}
	return l
}

// shape is a geometry.
func shape(data, parity, stripes int) geo.Geo {
	return geo.Geo{Data: data, Parity: parity, Stripes: stripes}
}

// small are geometries of few sectors.
func small() []geo.Geo {
	return []geo.Geo{shape(1, 2, 1), shape(2, 2, 2), shape(3, 3, 2), shape(1, 6, 3), shape(4, 2, 1)}
}

// geos are geometries: small ones, and those at the edges.
func geos() []geo.Geo {
	return append(small(), shape(2, 5, 3), shape(8, 2, 1), shape(8, 6, 1), shape(1, 2, 8), shape(1, 6, 8), shape(8, 2, 8), shape(8, 6, 8), shape(5, 4, 6))
}

// made is an area of a new device, and the device.
func made(t *testing.T, g geo.Geo) (*area.Area, *flash.Dev) {
	t.Helper()
	d, e := flash.New(all(g))
	if e != api.OK {
		t.Fatal(g, e)
	}
	return over(t, g, d), d
}

// over is an area of a device.
func over(t *testing.T, g geo.Geo, d *flash.Dev) *area.Area {
	t.Helper()
	c, e := stripe.New(g)
	if e != api.OK {
		t.Fatal(g, e)
	}
	a, e := area.New(d, c)
	if a == nil || e != api.OK {
		t.Fatal(g, a, e)
	}
	return a
}

// noisy is an area of a device in which each sector is another one, and nothing is blank.
func noisy(t *testing.T, g geo.Geo) (*area.Area, *flash.Dev) {
	t.Helper()
	a, d := made(t, g)
	for n := range d.Sectors() {
		if e := d.Rot(n*64, []byte(noise(64, uint64(n+7)))...); e != api.OK {
			t.Fatal(e)
		}
	}
	return a, d
}

// dump is all sectors of a device.
func dump(d *flash.Dev) []string {
	var l []string
	for n := range d.Sectors() {
		l = append(l, d.Dump(n))
	}
	return l
}

// put makes a sector other bytes, whatever they are, without an erase.
func put(t *testing.T, d *flash.Dev, n int, s string) {
	t.Helper()
	old := d.Dump(n)
	var by []byte
	for i := range len(s) {
		by = append(by, s[i]^old[i])
	}
	if e := d.Rot(n*64, by...); e != api.OK {
		t.Fatal(e)
	}
}

// putAll makes sectors other bytes.
func putAll(t *testing.T, d *flash.Dev, m map[int]string) {
	t.Helper()
	for n, s := range m {
		put(t, d, n, s)
	}
}

// isAs tells whether a device is as it was, but for some sectors.
func isAs(t *testing.T, what string, d *flash.Dev, before []string, but map[int]string) {
	t.Helper()
	for n, s := range before {
		if x, ok := but[n]; ok {
			s = x
		}
		if d.Dump(n) != s {
			t.Fatalf("%s: sector %d is %q, not %q", what, n, d.Dump(n), s)
		}
	}
}

// told turns a sector so that its tag tells.
func told(t *testing.T, d *flash.Dev, n int, r *dice) {
	t.Helper()
	s := d.Dump(n)
	ways := []string{strings.Repeat("\xff", 64), strings.Repeat("\x01", 64), s[:60] + "\xff\xff\xff\xff", s[:r.below(60)] + strings.Repeat("\xff", 64)}
	x := ways[r.below(len(ways))][:64]
	if x == s || x == sealed(x[:60]) {
		x = strings.Repeat("\x02", 64)
	}
	put(t, d, n, x)
}

// untold makes a sector another one whose tag is right.
func untold(t *testing.T, d *flash.Dev, n int, r *dice) {
	t.Helper()
	b := []byte(d.Dump(n)[:60])
	for range 1 + r.below(4) {
		b[r.below(60)] ^= byte(1 + r.below(255))
	}
	if string(b) == d.Dump(n)[:60] {
		b[0] ^= 1
	}
	put(t, d, n, sealed(string(b)))
}

// step is an erase of a sector, or a program of a page.
type step struct {
	sector int
	at     int
	page   string
}

// erasing are the steps that erase sectors.
func erasing(l ...int) []step {
	var m []step
	for _, n := range l {
		m = append(m, step{sector: n})
	}
	return m
}

// laying are the steps that lay a sector.
func laying(n int, s string) []step {
	l := erasing(n)
	for at := 0; at < 64; at += 16 {
		l = append(l, step{n, n*64 + at, s[at : at+16]})
	}
	return l
}

// layingStripe are the steps that lay a stripe.
func layingStripe(g geo.Geo, slot, at int, data []string) []step {
	var l []step
	for i, s := range encoded(data, g.Parity) {
		l = append(l, laying(place(g, slot, at, i), s)...)
	}
	return l
}

// layingText are the steps that fill a slot.
func layingText(g geo.Geo, slot int, text string) []step {
	var l []step
	blocks := cut(g, text)
	for at := range g.Stripes {
		l = append(l, layingStripe(g, slot, at, blocks[at*g.Data:][:g.Data])...)
	}
	return l
}

// done does steps up to the first error.
func done(d *flash.Dev, l []step) api.Errno {
	for _, s := range l {
		e := api.OK
		if s.page == "" {
			e = d.Erase(s.sector)
		} else {
			e = d.Program(s.at, s.page)
		}
		if e != api.OK {
			return e
		}
	}
	return api.OK
}

// does asks that a call on an area of a device does just these steps, in this order, wherever it is torn; each time on a copy of the device.
func does(t *testing.T, what string, g geo.Geo, d *flash.Dev, steps []step, call func(a *area.Area) api.Errno) {
	t.Helper()
	r := dice{uint64(len(steps))}
	for left := -1; left <= len(steps); left++ {
		torn := flash.Torn{Bytes: r.below(65), Mask: byte(r.below(256))}
		mine, its := d.Copy(), d.Copy()
		mine.Fuse(left, torn)
		its.Fuse(left, torn)
		want, got := done(mine, steps), call(over(t, g, its))
		if want != got || mine.Down() != its.Down() {
			t.Fatal(what, g, left, want, got, mine.Down(), its.Down())
		}
		isAs(t, what, its, dump(mine), nil)
		for n := range mine.Sectors() {
			if mine.Wear(n) != its.Wear(n) {
				t.Fatal(what, g, left, n, mine.Wear(n), its.Wear(n))
			}
		}
	}
}

// P13.1: the chapter's example.
func TestExample(t *testing.T) {
	a, _ := made(t, shape(2, 2, 1))
	if e := a.Fill(api.SlotA, head.Of(api.Version{1, 2, 3}, "abc"), "abc"); e != api.OK {
		t.Fatal(e)
	}
	h, image, wrong, e := a.Load(api.SlotA)
	if h.Version != (api.Version{1, 2, 3}) || h.Length != 3 || image != "abc" || wrong != 0 || e != api.OK {
		t.Error(h, image, wrong, e)
	}
}

// P13.1: a device has sectors enough, or there is no area; nor is there of nil, nor of what New didn't make.
func TestNew(t *testing.T) {
	for _, g := range geos() {
		c, _ := stripe.New(g)
		for _, n := range []int{1, all(g) - 16 - 2, all(g) - 2, all(g) - 1, all(g), all(g) + 1, 512} {
			d, _ := flash.New(n)
			a, e := area.New(d, c)
			if n < all(g) && (a != nil || e != api.ErrArg) {
				t.Error(g, n, a, e)
			}
			if n >= all(g) && (a == nil || e != api.OK || a.Device() != d || d.Ops() != 0) {
				t.Error(g, n, a, e)
			}
		}
		d, _ := flash.New(512)
		for _, x := range []struct {
			d *flash.Dev
			c *stripe.Coder
		}{{nil, c}, {d, nil}, {nil, nil}, {&flash.Dev{}, c}, {d, &stripe.Coder{}}} {
			if a, e := area.New(x.d, x.c); a != nil || e != api.ErrArg {
				t.Error(g, a, e)
			}
		}
	}
}

// P13.1: a device that is down has an area all the same, and it is the same when it is up.
func TestNewDown(t *testing.T) {
	d, _ := flash.New(100)
	d.Fuse(0, flash.Torn{})
	d.Erase(99)
	a := over(t, shape(2, 2, 2), d)
	if _, e := a.Read(0, 0); e != api.ErrDown {
		t.Error(e)
	}
	d.PowerOn()
	if _, e := a.Read(0, 0); e != api.ErrBad {
		t.Error(e)
	}
}

// lengths are lengths of images: the edges of blocks, stripes and the room.
func lengths(g geo.Geo) []int {
	var l []int
	for _, n := range []int{0, 1, 2, 11, 12, 13, 71, 72, 73, 60*g.Data - 49, 60*g.Data - 48, 60*g.Data - 47, room(g) - 1, room(g)} {
		if n >= 0 && n <= room(g) {
			l = append(l, n)
		}
	}
	return l
}

// P13.1: a slot's text is the head, the image, and noughts.
func TestText(t *testing.T) {
	for _, g := range geos() {
		for _, n := range lengths(g) {
			image := noise(n, uint64(n))
			h := top(api.Version{1, 300, 65535}, image)
			if l, e := area.Text(g, h, image); e != api.OK || !slices.Equal(textsOf(l...), cut(g, headed(h)+image)) {
				t.Fatal(g, n, l, e)
			}
			h.Hash[31]++ // the digest isn't asked
			if l, e := area.Text(g, h, image); e != api.OK || !slices.Equal(textsOf(l...), cut(g, headed(h)+image)) {
				t.Fatal(g, n, l, e)
			}
		}
	}
}

// P13.1: a text, written out.
func TestTextWritten(t *testing.T) {
	h := head.Head{Version: api.Version{1, 2, 3}, Length: 13}
	l, e := area.Text(shape(1, 2, 2), h, "thirteen byte")
	want := blocksOf("TRIP\x00\x01\x00\x02\x00\x03\x00\x00\x00\x0d"+strings.Repeat("\x00", 34)+"thirteen byt", "e"+strings.Repeat("\x00", 59))
	if e != api.OK || !slices.Equal(l, want) {
		t.Error(l, e)
	}
}

// wrongTexts are geometries, heads and images that have no text, and why.
func wrongTexts() (l []struct {
	g     geo.Geo
	h     head.Head
	image string
	e     api.Errno
}) {
	add := func(g geo.Geo, h head.Head, image string, e api.Errno) {
		l = append(l, struct {
			g     geo.Geo
			h     head.Head
			image string
			e     api.Errno
		}{g, h, image, e})
	}
	for _, g := range geos() {
		for _, n := range []int{0, 5, room(g), room(g) + 1, room(g) + 100} {
			image := noise(n, 3)
			h := top(api.Version{1, 2, 3}, image)
			if n > room(g) {
				add(g, h, image, api.ErrLong)
			}
			for _, x := range []geo.Geo{shape(0, 0, 0), shape(0, g.Parity, g.Stripes), shape(9, g.Parity, g.Stripes), shape(g.Data, 1, g.Stripes), shape(g.Data, 7, g.Stripes), shape(g.Data, g.Parity, 0), shape(g.Data, g.Parity, 9), shape(-1, -1, -1), shape(math.MaxInt, math.MaxInt, math.MaxInt), shape(math.MinInt, math.MinInt, math.MinInt)} {
				add(x, h, image, api.ErrArg)
			}
			for i := range 3 {
				for _, number := range []int{-1, 65536, math.MinInt, math.MaxInt} {
					x := h
					x.Version[i] = number
					add(g, x, image, api.ErrArg)
				}
			}
			for _, length := range []int{-1, n - 1, n + 1, room(g) + 2, 1<<24 - 1, 1 << 24, n + 1<<32, math.MinInt, math.MaxInt} {
				x := h
				x.Length = length
				add(g, x, image, api.ErrArg)
			}
		}
	}
	g, image := shape(8, 6, 8), strings.Repeat("x", 1<<24)
	add(g, top(api.Version{}, image[1:]), image[1:], api.ErrLong)
	add(g, top(api.Version{}, image), image, api.ErrArg)
	return l
}

// P13.1: a geometry or a head that isn't right, another length, and what is longer than the room, have no text, and aren't filled in.
func TestTextWrong(t *testing.T) {
	for _, x := range wrongTexts() {
		if l, e := area.Text(x.g, x.h, x.image); l != nil || e != x.e {
			t.Fatal(x.g, x.h, len(x.image), l, e)
		}
		if !geo.Right(x.g) {
			continue
		}
		a, d := noisy(t, x.g)
		before := dump(d)
		for _, slot := range []int{0, 1, 2, -1, 3, math.MaxInt} { // the text is asked ahead of the slot
			if e := a.Fill(slot, x.h, x.image); e != x.e {
				t.Fatal(x.g, slot, x.h, len(x.image), e)
			}
		}
		if d.Ops() != 0 {
			t.Fatal(x.g, x.h, d.Ops())
		}
		isAs(t, "Fill", d, before, nil)
	}
}

// P13.1: of each geometry and slot: what is filled lies where it must, and nothing else is touched; it is loaded, and nothing is wrong.
func TestFill(t *testing.T) {
	for n := range 8 * 5 * 8 {
		g := shape(1+n%8, 2+n/8%5, 1+n/40)
		slot := n % 3
		image := noise(n*7919%(room(g)+1), uint64(n))
		h := top(api.Version{n, 1, 2}, image)
		a, d := noisy(t, g)
		before := dump(d)
		if e := a.Fill(slot, h, image); e != api.OK {
			t.Fatal(g, slot, e)
		}
		isAs(t, "Fill", d, before, filled(g, slot, headed(h)+image))
		if many := (g.Data + g.Parity) * g.Stripes; d.Ops() != 5*many || d.Wear(count(0, all(g))...) != many {
			t.Fatal(g, slot, d.Ops())
		}
		got, s, wrong, e := a.Load(slot)
		if got != h || s != image || wrong != 0 || e != api.OK {
			t.Fatal(g, slot, got, len(s), wrong, e)
		}
	}
}

// P13.1: images of all edges are filled and loaded, in each slot; the others stay, and one that is filled anew is forgotten.
func TestFillEdges(t *testing.T) {
	for _, g := range geos() {
		a, d := made(t, g)
		for slot := range 3 {
			for _, n := range lengths(g) {
				for seed, image := range []string{noise(n, uint64(n)), strings.Repeat("\xff", n), strings.Repeat("\x00", n)} {
					h := top(api.Version{slot, seed, n % 65536}, image)
					before := dump(d)
					if e := a.Fill(slot, h, image); e != api.OK {
						t.Fatal(g, slot, n, e)
					}
					isAs(t, "Fill", d, before, filled(g, slot, headed(h)+image))
					got, s, wrong, e := a.Load(slot)
					if got != h || s != image || wrong != 0 || e != api.OK {
						t.Fatal(g, slot, n, got, s, wrong, e)
					}
				}
			}
		}
	}
}

// P13.1: a slot is filled sector by sector, stripes rising, each sector erased and its pages programmed in order; what is torn is left so.
func TestFillTorn(t *testing.T) {
	for _, g := range small() {
		_, d := noisy(t, g)
		for slot := range 3 {
			image := noise(room(g)-slot, 5)
			h := top(api.Version{1}, image)
			does(t, "Fill", g, d, layingText(g, slot, headed(h)+image), func(a *area.Area) api.Errno { return a.Fill(slot, h, image) })
		}
	}
}

// answer is what a call told: an error, and whether all else was nothing.
type answer struct {
	name    string
	e       api.Errno
	nothing bool
}

// answers are those of all calls that name a slot, each with arguments that are as they must be (of two data sectors and two parity ones) but the slot and the stripe.
func answers(a *area.Area, slot, at int) []answer {
	f, e := a.Read(slot, at)
	l := []answer{{"Read", e, f.Blocks == nil && f.Wrong == nil}}
	l = append(l, answer{"Write", a.Write(slot, at, someBlocks(2, 1)...), true})
	l = append(l, answer{"Rewrite", a.Rewrite(slot, at, stripe.Found{Blocks: someBlocks(4, 1)}, 0), true})
	l = append(l, answer{"Wipe", a.Wipe(slot), true})
	l = append(l, answer{"Fill", a.Fill(slot, top(api.Version{}, "abc"), "abc"), true})
	h, s, n, e := a.Load(slot)
	l = append(l, answer{"Load", e, h == head.Head{} && s == "" && n == 0})
	b, e := a.Blank(slot)
	l = append(l, answer{"Blank", e, !b})
	c, e := a.Check(slot)
	l = append(l, answer{"Check", e, c == area.Checked{}})
	for _, other := range []int{-1, 0, 1, 2, 3} {
		if other != slot {
			n, e := a.Copy(slot, other)
			m, x := a.Copy(other, slot)
			l = append(l, answer{"Copy from", e, n == 0}, answer{"Copy to", x, m == 0})
		}
	}
	n, e = a.Copy(slot, slot)
	return append(l, answer{"Copy to itself", e, n == 0})
}

// P13.1: there are slots 0, 1 and 2; that there is none is asked ahead of the device, and of whether a slot is copied to itself.
func TestNoSlot(t *testing.T) {
	g := shape(2, 2, 2)
	a, d := noisy(t, g)
	for _, up := range []bool{true, false} {
		if !up {
			d.Fuse(0, flash.Torn{})
			d.Erase(all(g) - 1)
		}
		before, ops := dump(d), d.Ops()
		for _, slot := range append(far(), 3, 4) {
			for _, x := range answers(a, slot, 0) {
				if x.e != api.ErrRange || !x.nothing {
					t.Error(up, slot, x)
				}
			}
		}
		if d.Ops() != ops {
			t.Error(up, d.Ops()-ops)
		}
		isAs(t, "no slot", d, before, nil)
	}
}

// P13.1: there are as many stripes as the geometry has.
func TestNoStripe(t *testing.T) {
	for _, g := range geos() {
		a, d := noisy(t, g)
		before := dump(d)
		for _, at := range append(far(), g.Stripes, g.Stripes+1) {
			for slot := range 3 {
				if f, e := a.Read(slot, at); f.Blocks != nil || f.Wrong != nil || e != api.ErrRange {
					t.Error(g, at, f, e)
				}
				for _, n := range []int{0, g.Data, g.Data + 1} { // asked ahead of how many blocks there are
					if e := a.Write(slot, at, someBlocks(n, 1)...); e != api.ErrRange {
						t.Error(g, at, e)
					}
				}
				for _, n := range []int{0, g.Data + g.Parity} {
					if e := a.Rewrite(slot, at, stripe.Found{Blocks: someBlocks(n, 1)}, 0, -1); e != api.ErrRange {
						t.Error(g, at, e)
					}
				}
			}
		}
		if d.Ops() != 0 {
			t.Error(g, d.Ops())
		}
		isAs(t, "no stripe", d, before, nil)
	}
}

// P13.1: of a device that is down all tell so, and nothing; that a slot is none, or is copied to itself, is asked ahead of that.
func TestDown(t *testing.T) {
	g := shape(2, 2, 2)
	a, d := made(t, g)
	image := noise(100, 9)
	for slot := range 3 {
		if e := a.Fill(slot, top(api.Version{slot}, image), image); e != api.OK {
			t.Fatal(e)
		}
	}
	d.Fuse(0, flash.Torn{})
	d.Erase(all(g) - 1)
	before := dump(d)
	for slot := range 3 {
		copied := 0
		for _, x := range answers(a, slot, 1) {
			want := api.ErrDown
			switch {
			case x.name == "Copy to itself":
				want = api.ErrArg
			case strings.HasPrefix(x.name, "Copy") && x.e == api.ErrRange:
				copied++
				want = api.ErrRange
			}
			if x.e != want || !x.nothing {
				t.Error(slot, x)
			}
		}
		if copied != 4 { // from and to slots -1 and 3
			t.Error(slot, copied)
		}
	}
	if a.Device() != d {
		t.Error("Device")
	}
	isAs(t, "down", d, before, nil)
	d.PowerOn()
	if h, s, n, e := a.Load(1); h != top(api.Version{1}, image) || s != image || n != 0 || e != api.OK {
		t.Error(h, s, n, e)
	}
}

// P13.1: sectors that are locked aren't laid or erased, and that is told; they are read as ever.
func TestLocked(t *testing.T) {
	g := shape(2, 2, 2)
	a, d := made(t, g)
	image := noise(100, 9)
	h := top(api.Version{7}, image)
	if e := a.Fill(0, h, image); e != api.OK {
		t.Fatal(e)
	}
	if e := d.Lock(0, 8); e != api.OK {
		t.Fatal(e)
	}
	before := dump(d)
	if e := a.Write(0, 1, someBlocks(2, 1)...); e != api.ErrLock {
		t.Error(e)
	}
	if e := a.Rewrite(0, 1, stripe.Found{Blocks: someBlocks(4, 1)}, 3); e != api.ErrLock {
		t.Error(e)
	}
	if e := a.Wipe(0); e != api.ErrLock {
		t.Error(e)
	}
	if e := a.Fill(0, top(api.Version{}, "abc"), "abc"); e != api.ErrLock {
		t.Error(e)
	}
	if n, e := a.Copy(1, 0); n != 0 || e != api.ErrBad {
		t.Error(n, e)
	}
	isAs(t, "locked", d, before, nil)
	if n, e := a.Copy(0, 1); n != 2 || e != api.OK {
		t.Error(n, e)
	}
	if n, e := a.Copy(1, 0); n != 0 || e != api.OK { // there is nothing to write
		t.Error(n, e)
	}
	d.Rot(5*64, 1)
	if n, e := a.Copy(1, 0); n != 0 || e != api.ErrLock {
		t.Error(n, e)
	}
	if got, s, n, e := a.Load(0); got != h || s != image || n != 1 || e != api.OK {
		t.Error(got, s, n, e)
	}
	if b, e := a.Blank(0); b || e != api.OK {
		t.Error(b, e)
	}
	if c, e := a.Check(0); c != (area.Checked{Fine: 1, Wrong: 1, Sectors: 1}) || e != api.OK {
		t.Error(c, e)
	}
}

// P13.1: where one sector alone is locked, what comes ahead of it is done.
func TestLockedOne(t *testing.T) {
	g := shape(2, 2, 2)
	for n := 8; n < 16; n++ {
		_, d := noisy(t, g)
		d.Lock(n, n+1)
		data := someBlocks(2, 5)
		f := stripe.Found{Blocks: someBlocks(4, 6)}
		image := noise(100, 9)
		h := top(api.Version{7}, image)
		does(t, "Write", g, d, layingStripe(g, 1, 1, textsOf(data...)), func(a *area.Area) api.Errno { return a.Write(1, 1, data...) })
		does(t, "Wipe", g, d, erasing(count(8, 16)...), func(a *area.Area) api.Errno { return a.Wipe(1) })
		does(t, "Fill", g, d, layingText(g, 1, headed(h)+image), func(a *area.Area) api.Errno { return a.Fill(1, h, image) })
		does(t, "Rewrite", g, d, rewriting(g, 1, 0, f, 3, 1, 2), func(a *area.Area) api.Errno { return a.Rewrite(1, 0, f, 3, 1, 2) })
	}
}

// reads asks what a stripe is read as.
func reads(t *testing.T, a *area.Area, slot, at int, blocks []string, wrong []int) {
	t.Helper()
	f, e := a.Read(slot, at)
	if e != api.OK || !slices.Equal(textsOf(f.Blocks...), blocks) || !slices.Equal(f.Wrong, wrong) {
		t.Fatal(a.Geo(), slot, at, f, e, wrong)
	}
}

// cropped are sectors without their tags.
func cropped(l []string) []string {
	var m []string
	for _, s := range l {
		m = append(m, s[:60])
	}
	return m
}

// P13.1: a stripe is read from where its sectors lie, each in one read; what is wrong is mended in what is told, not on the device.
func TestRead(t *testing.T) {
	r := dice{1}
	for _, g := range geos() {
		a, d := made(t, g)
		for slot := range 3 {
			for at := range g.Stripes {
				l := encoded(textsOf(someBlocks(g.Data, uint64(10*slot+at+1))...), g.Parity)
				for i, s := range l {
					put(t, d, place(g, slot, at, i), s)
				}
				reads(t, a, slot, at, cropped(l), nil)
				which := r.some(r.below(g.Parity+1), g.Data+g.Parity)
				for _, i := range which {
					told(t, d, place(g, slot, at, i), &r)
				}
				before, ops := dump(d), d.Ops()
				reads(t, a, slot, at, cropped(l), which)
				if d.Ops() != ops+g.Data+g.Parity {
					t.Fatal(g, d.Ops()-ops)
				}
				isAs(t, "Read", d, before, nil)
			}
		}
	}
}

// P13.1: a stripe of which too much is wrong isn't read; the others of its slot are.
func TestReadBad(t *testing.T) {
	r := dice{2}
	for _, g := range geos() {
		a, d := made(t, g)
		image := noise(room(g), 3)
		if e := a.Fill(2, top(api.Version{}, image), image); e != api.OK {
			t.Fatal(e)
		}
		at := r.below(g.Stripes)
		for _, i := range r.some(g.Parity+1, g.Data+g.Parity) {
			told(t, d, place(g, 2, at, i), &r)
		}
		for i := range g.Stripes {
			f, e := a.Read(2, i)
			if (i == at) != (e == api.ErrBad) || (i != at) != (e == api.OK) || (i == at) != (f.Blocks == nil) || f.Wrong != nil {
				t.Fatal(g, i, at, f, e)
			}
		}
		for slot := range 2 { // nothing was written there
			if f, e := a.Read(slot, at); f.Blocks != nil || f.Wrong != nil || e != api.ErrBad {
				t.Fatal(g, slot, f, e)
			}
		}
	}
}

// P13.1: what is written is the stripe of these blocks, where it must lie, and nothing else is touched; it is read as it was written.
func TestWrite(t *testing.T) {
	for _, g := range geos() {
		a, d := noisy(t, g)
		for slot := range 3 {
			for at := range g.Stripes {
				for seed, data := range [][]api.Block{someBlocks(g.Data, uint64(slot*8+at)), make([]api.Block, g.Data)} {
					before, ops, wear := dump(d), d.Ops(), d.Wear(count(0, all(g))...)
					if e := a.Write(slot, at, data...); e != api.OK {
						t.Fatal(g, slot, at, e)
					}
					l := encoded(textsOf(data...), g.Parity)
					but := map[int]string{}
					for i, s := range l {
						but[place(g, slot, at, i)] = s
					}
					isAs(t, "Write", d, before, but)
					if wide := g.Data + g.Parity; d.Ops() != ops+5*wide || d.Wear(count(0, all(g))...) != wear+wide {
						t.Fatal(g, seed, d.Ops()-ops)
					}
					reads(t, a, slot, at, cropped(l), nil)
				}
			}
		}
	}
}

// P13.1: blocks that aren't as many as the data blocks of a stripe aren't written; that is asked ahead of the device.
func TestWriteWrong(t *testing.T) {
	for _, g := range geos() {
		a, d := noisy(t, g)
		before := dump(d)
		for _, up := range []bool{true, false} {
			if !up {
				d.Fuse(0, flash.Torn{})
				d.Erase(all(g) - 1)
			}
			for n := range 30 {
				if e := a.Write(1, 0, someBlocks(n, 1)...); n != g.Data && e != api.ErrArg || n == g.Data && !up && e != api.ErrDown {
					t.Fatal(g, n, e)
				}
				if n != g.Data {
					isAs(t, "Write", d, before, nil)
				}
				before = dump(d)
			}
		}
	}
}

// P13.1: a stripe is laid sector by sector, each erased and its pages programmed in order; what is torn is left so.
func TestWriteTorn(t *testing.T) {
	for _, g := range geos()[:8] {
		_, d := noisy(t, g)
		for slot := range 3 {
			data := someBlocks(g.Data, uint64(slot))
			at := slot % g.Stripes
			does(t, "Write", g, d, layingStripe(g, slot, at, textsOf(data...)), func(a *area.Area) api.Errno { return a.Write(slot, at, data...) })
		}
	}
}

// rewriting are the steps that lay some sectors of a stripe anew.
func rewriting(g geo.Geo, slot, at int, f stripe.Found, which ...int) []step {
	var l []step
	for _, i := range which {
		l = append(l, laying(place(g, slot, at, i), sealed(string(f.Blocks[i][:])))...)
	}
	return l
}

// P13.1: those sectors that are named are laid anew, in this order, as often as they are named, whatever their blocks are; what is torn is left so.
func TestRewrite(t *testing.T) {
	r := dice{3}
	for _, g := range geos() {
		_, d := noisy(t, g)
		wide := g.Data + g.Parity
		for slot := range 3 {
			f := stripe.Found{Blocks: someBlocks(wide, 4), Wrong: r.some(2, wide)}
			at := r.below(g.Stripes)
			lists := [][]int{nil, {0}, {wide - 1}, {wide - 1, 0}, {1, 1}, {0, 2, 0}, r.some(2, wide)}
			if slot == 0 {
				lists = append(lists, count(0, wide))
			}
			for _, which := range lists {
				does(t, "Rewrite", g, d, rewriting(g, slot, at, f, which...), func(a *area.Area) api.Errno { return a.Rewrite(slot, at, f, which...) })
			}
		}
	}
}

// P13.1: what was read with something wrong is whole when just that is laid anew.
func TestRewriteFound(t *testing.T) {
	r := dice{4}
	for _, g := range geos() {
		a, d := made(t, g)
		image := noise(room(g), 3)
		h := top(api.Version{4, 5, 6}, image)
		if e := a.Fill(1, h, image); e != api.OK {
			t.Fatal(e)
		}
		before := dump(d)
		for at := range g.Stripes {
			which := r.some(g.Parity, g.Data+g.Parity)
			for _, i := range which {
				told(t, d, place(g, 1, at, i), &r)
			}
			f, e := a.Read(1, at)
			if e != api.OK {
				t.Fatal(e)
			}
			ops := d.Ops()
			if e := a.Rewrite(1, at, f, f.Wrong...); e != api.OK || d.Ops() != ops+5*g.Parity {
				t.Fatal(e, d.Ops()-ops)
			}
			isAs(t, "Rewrite", d, before, nil)
		}
	}
}

// P13.1: blocks that aren't as many as a stripe has, and sectors that it hasn't, are refused, and no sector is laid; that is asked ahead of the device.
func TestRewriteWrong(t *testing.T) {
	for _, g := range geos() {
		a, d := noisy(t, g)
		wide := g.Data + g.Parity
		before := dump(d)
		for _, up := range []bool{true, false} {
			if !up {
				d.Fuse(0, flash.Torn{})
				d.Erase(all(g) - 1)
				before = dump(d)
			}
			ops := d.Ops()
			for n := range 30 {
				f := stripe.Found{Blocks: someBlocks(n, 1)}
				for _, which := range [][]int{nil, {0}, {0, 1}} {
					if e := a.Rewrite(1, 0, f, which...); n != wide && e != api.ErrArg {
						t.Fatal(g, n, which, e)
					}
					if n == wide {
						break
					}
				}
			}
			f := stripe.Found{Blocks: someBlocks(wide, 1)}
			for _, i := range append(far(), wide, wide+1) {
				for _, which := range [][]int{{i}, {0, i}, {i, 0}, {0, 1, i, 1}} {
					if e := a.Rewrite(1, 0, f, which...); e != api.ErrArg {
						t.Fatal(g, which, e)
					}
				}
			}
			if d.Ops() != ops {
				t.Fatal(g, d.Ops()-ops)
			}
			isAs(t, "Rewrite", d, before, nil)
		}
	}
}

// P13.1: all sectors of a slot are erased, rising, and no other one; it is blank then.
func TestWipe(t *testing.T) {
	for _, g := range geos() {
		_, d := noisy(t, g)
		many := (g.Data + g.Parity) * g.Stripes
		for slot := range 3 {
			does(t, "Wipe", g, d, erasing(count(slot*many, (slot+1)*many)...), func(a *area.Area) api.Errno { return a.Wipe(slot) })
			mine := d.Copy()
			a := over(t, g, mine)
			if e := a.Wipe(slot); e != api.OK || mine.Ops() != many {
				t.Fatal(g, slot, e, mine.Ops())
			}
			for i := range 3 {
				if b, e := a.Blank(i); b != (i == slot) || e != api.OK {
					t.Fatal(g, slot, i, b, e)
				}
			}
		}
	}
}

// P13.1: a slot is blank as long as no bit of it is programmed, whatever the others hold.
func TestBlank(t *testing.T) {
	for _, g := range geos() {
		a, d := made(t, g)
		many := (g.Data + g.Parity) * g.Stripes
		for i := range d.Sectors() - 3*many { // log and tally don't matter
			d.Rot((3*many+i)*64, 1)
		}
		for n := range 3 * many {
			bit, at := byte(1)<<(n%8), n*64+n*37%64
			d.Rot(at, bit)
			for slot := range 3 {
				if b, e := a.Blank(slot); b != (slot != n/many) || e != api.OK {
					t.Fatal(g, n, slot, b, e)
				}
			}
			d.Rot(at, bit)
		}
		before := dump(d)
		for slot := range 3 {
			if b, e := a.Blank(slot); !b || e != api.OK {
				t.Fatal(g, slot, b, e)
			}
		}
		isAs(t, "Blank", d, before, nil)
	}
}

// P13.1: stripes are counted by what they are, and wrong sectors in those that can be read.
func TestCheck(t *testing.T) {
	r := dice{5}
	for _, g := range geos() {
		for slot := range 3 {
			a, d := made(t, g)
			if c, e := a.Check(slot); c != (area.Checked{Lost: g.Stripes}) || e != api.OK { // a blank stripe can't be read
				t.Fatal(g, c, e)
			}
			image := noise(room(g), 3)
			if e := a.Fill(slot, top(api.Version{}, image), image); e != api.OK {
				t.Fatal(e)
			}
			want := area.Checked{Fine: g.Stripes}
			for at := range g.Stripes {
				if c, e := a.Check(slot); c != want || e != api.OK {
					t.Fatal(g, c, want, e)
				}
				n := r.below(g.Parity + 2)
				for _, i := range r.some(n, g.Data+g.Parity) {
					told(t, d, place(g, slot, at, i), &r)
				}
				want = counted(want, n, g.Parity)
			}
			before := dump(d)
			if c, e := a.Check(slot); c != want || e != api.OK {
				t.Fatal(g, c, want, e)
			}
			isAs(t, "Check", d, before, nil)
		}
	}
}

// counted is what is counted when of one stripe that was fine n sectors were turned.
func counted(c area.Checked, n, parity int) area.Checked {
	switch {
	case n > parity:
		c.Fine--
		c.Lost++
	case n > 0:
		c.Fine--
		c.Wrong++
		c.Sectors += n
	}
	return c
}

// P13.1: a stripe that isn't fine is one that has something wrong, though no tag tells.
func TestCheckUntold(t *testing.T) {
	r := dice{6}
	g := shape(3, 4, 3)
	a, d := made(t, g)
	image := noise(room(g), 3)
	a.Fill(1, top(api.Version{}, image), image)
	untold(t, d, place(g, 1, 0, 1), &r)
	untold(t, d, place(g, 1, 0, 6), &r)
	untold(t, d, place(g, 1, 2, 3), &r)
	if c, e := a.Check(1); c != (area.Checked{Fine: 1, Wrong: 2, Sectors: 3}) || e != api.OK {
		t.Error(c, e)
	}
	if h, s, n, e := a.Load(1); h != top(api.Version{}, image) || s != image || n != 3 || e != api.OK {
		t.Error(h, s, n, e)
	}
}

// refuses asks that a slot isn't loaded, and why, and that nothing is laid.
func refuses(t *testing.T, a *area.Area, slot int, want api.Errno) {
	t.Helper()
	before := dump(a.Device())
	if h, s, n, e := a.Load(slot); h != (head.Head{}) || s != "" || n != 0 || e != want {
		t.Fatal(a.Geo(), slot, h, len(s), n, e, want)
	}
	isAs(t, "Load", a.Device(), before, nil)
}

// P13.1: a slot whose text begins with no head, or with one that is longer than the room, or isn't the image's, isn't loaded.
func TestLoadWrong(t *testing.T) {
	r := dice{13}
	for _, g := range geos() {
		a, d := made(t, g)
		refuses(t, a, 1, api.ErrBad)
		image := noise(room(g)-1, 3)
		h := top(api.Version{1, 2, 3}, image)
		good := headed(h) + image
		try := func(text string, want api.Errno) {
			t.Helper()
			putAll(t, d, filled(g, 1, text))
			refuses(t, a, 1, want)
			told(t, d, place(g, 1, r.below(g.Stripes), r.below(g.Data+g.Parity)), &r) // that is mended, and not told then
			refuses(t, a, 1, want)
		}
		try("", api.ErrForm)
		try(strings.Repeat("\xff", 60*g.Data*g.Stripes), api.ErrForm)
		for _, at := range []int{0, 3, 46, 47} {
			try(good[:at]+"\x01"+good[at+1:], api.ErrForm)
		}
		for _, n := range []int{room(g) + 1, room(g) + 2, 65536, 1<<24 - 1} { // that isn't an image's, either
			try(headed(head.Head{Length: n, Hash: h.Hash})+image, api.ErrLong)
		}
		try("TRIP\x00\x00\x00\x00\x00\x00\x01\x00\x00\x00"+strings.Repeat("\x00", 34), api.ErrForm) // nor is that a length of a head
		for _, n := range []int{0, h.Length - 1, h.Length + 1, room(g)} {
			try(headed(head.Head{Length: n, Hash: h.Hash})+image, api.ErrSum)
		}
		x := h
		x.Hash[17] ^= 4
		try(headed(x)+image, api.ErrSum)
		if len(image) > 0 {
			try(headed(h)+image[:len(image)-1]+string([]byte{image[len(image)-1] ^ 1}), api.ErrSum)
		}
		putAll(t, d, filled(g, 1, good+"x")) // what stands behind the image doesn't matter
		if got, s, n, e := a.Load(1); got != h || s != image || n != 0 || e != api.OK {
			t.Fatal(g, got, s, n, e)
		}
	}
}

// P13.1: a stripe that can't be read is told ahead of what is wrong with a head or an image, wherever it is.
func TestLoadBad(t *testing.T) {
	r := dice{7}
	for _, g := range geos() {
		for at := range g.Stripes {
			a, d := made(t, g)
			image := noise(1, 3)
			for _, text := range []string{headed(top(api.Version{}, image)) + image, "", headed(head.Head{Length: room(g) + 1}), headed(head.Head{})} {
				putAll(t, d, filled(g, 0, text))
				for _, i := range r.some(g.Parity+1, g.Data+g.Parity) {
					told(t, d, place(g, 0, at, i), &r)
				}
				refuses(t, a, 0, api.ErrBad)
			}
		}
	}
}

// P13.2: what is filled is loaded, though of each stripe as many sectors were turned as are mended; they are counted, and nothing is laid.
func TestLoadMended(t *testing.T) {
	r := dice{8}
	for n := range 8 * 5 * 8 {
		g := shape(1+n%8, 2+n/8%5, 1+n/40)
		slot := r.below(3)
		image := noise(r.below(room(g)+1), uint64(n))
		h := top(api.Version{1, n, 2}, image)
		a, d := made(t, g)
		if e := a.Fill(slot, h, image); e != api.OK {
			t.Fatal(e)
		}
		turned := 0
		for at := range g.Stripes {
			turn, many := told, g.Parity
			if r.below(3) == 0 {
				turn, many = untold, g.Parity/2
			}
			for _, i := range r.some(many-r.below(2)*r.below(many+1), g.Data+g.Parity) {
				turn(t, d, place(g, slot, at, i), &r)
				turned++
			}
		}
		before := dump(d)
		if got, s, wrong, e := a.Load(slot); got != h || s != image || wrong != turned || e != api.OK {
			t.Fatal(g, slot, got, len(s), wrong, turned, e)
		}
		isAs(t, "Load", d, before, nil)
	}
}

// P13.2: all choices of sectors that are turned, in one stripe of small slots, and the like ones in the others.
func TestLoadMendedAll(t *testing.T) {
	r := dice{9}
	for _, g := range small() {
		a, d := made(t, g)
		image := noise(room(g), 5)
		h := top(api.Version{3, 2, 1}, image)
		if e := a.Fill(1, h, image); e != api.OK {
			t.Fatal(e)
		}
		fine := filled(g, 1, headed(h)+image)
		wide := g.Data + g.Parity
		for set := range 1 << wide {
			turned := 0
			for i := range wide {
				turned += set >> i & 1
			}
			for at := range g.Stripes {
				for i := range wide {
					if set>>((i+at)%wide)&1 == 1 {
						told(t, d, place(g, 1, at, i), &r)
					}
				}
			}
			if turned > g.Parity {
				refuses(t, a, 1, api.ErrBad)
			} else if got, s, n, e := a.Load(1); got != h || s != image || n != turned*g.Stripes || e != api.OK {
				t.Fatal(g, set, got, s, n, e)
			}
			putAll(t, d, fine)
		}
	}
}

// P13.3: what is copied is what it would be if it had been filled, though the slot it is copied from has sectors that are wrong, and whatever lay there; nothing else is touched.
func TestCopy(t *testing.T) {
	r := dice{10}
	for _, g := range geos() {
		for n := range 6 {
			from, to := n/2, (n/2+1+n%2)%3
			a, d := noisy(t, g)
			image := noise(r.below(room(g)+1), uint64(n))
			h := top(api.Version{n}, image)
			if e := a.Fill(from, h, image); e != api.OK {
				t.Fatal(e)
			}
			for at := range g.Stripes {
				for _, i := range r.some(r.below(g.Parity+1), g.Data+g.Parity) {
					told(t, d, place(g, from, at, i), &r)
				}
			}
			before := dump(d)
			want := filled(g, to, headed(h)+image)
			if many, e := a.Copy(from, to); many != g.Stripes || e != api.OK {
				t.Fatal(g, from, to, many, e)
			}
			isAs(t, "Copy", d, before, want)
			if got, s, wrong, e := a.Load(to); got != h || s != image || wrong != 0 || e != api.OK {
				t.Fatal(g, from, to, got, s, wrong, e)
			}
			before = dump(d)
			if many, e := a.Copy(from, to); many != 0 || e != api.OK || d.Wear(count(0, all(g))...) != 2*(g.Data+g.Parity)*g.Stripes {
				t.Fatal(g, from, to, many, e)
			}
			isAs(t, "Copy", d, before, nil)
		}
	}
}

// P13.1, P13.3: just those stripes are written of which a sector is another one, though it is one bit of a tag or of parity; all of such a stripe is.
func TestCopySome(t *testing.T) {
	r := dice{11}
	for _, g := range geos() {
		_, d := made(t, g)
		image := noise(room(g), 3)
		h := top(api.Version{3}, image)
		putAll(t, d, filled(g, 0, headed(h)+image))
		putAll(t, d, filled(g, 2, headed(h)+image))
		for n := range 12 {
			x := d.Copy()
			if n%2 == 1 { // that the slot it is copied from has something wrong is no other stripe
				for at := range g.Stripes {
					told(t, x, place(g, 0, at, r.below(g.Data+g.Parity)), &r)
				}
			}
			var steps []step
			which := r.some(r.below(g.Stripes+1), g.Stripes)
			blocks := cut(g, headed(h)+image)
			for _, at := range which {
				x.Rot(place(g, 2, at, r.below(g.Data+g.Parity))*64+r.below(64), byte(1)<<r.below(8))
				steps = append(steps, layingStripe(g, 2, at, blocks[at*g.Data:][:g.Data])...)
			}
			if len(steps) > 100 { // all its tears are too many
				copies(t, g, x, 0, 2, steps, len(which))
				continue
			}
			does(t, "Copy", g, x, steps, func(a *area.Area) api.Errno {
				many, e := a.Copy(0, 2)
				if e == api.OK && many != len(which) || e != api.OK && many != 0 {
					t.Fatal(g, many, which, e)
				}
				return e
			})
		}
	}
}

// copies asks that a copy does just these steps, and tells how many stripes were written.
func copies(t *testing.T, g geo.Geo, d *flash.Dev, from, to int, steps []step, want int) {
	t.Helper()
	mine, its := d.Copy(), d.Copy()
	done(mine, steps)
	if many, e := over(t, g, its).Copy(from, to); many != want || e != api.OK {
		t.Fatal(g, many, want, e)
	}
	isAs(t, "Copy", its, dump(mine), nil)
}

// P13.1: what holds no image is copied too, as long as its stripes can be read.
func TestCopyNoImage(t *testing.T) {
	for _, g := range small() {
		a, d := noisy(t, g)
		text := noise(60*g.Data*g.Stripes, 4)
		putAll(t, d, filled(g, 1, text))
		before := dump(d)
		if many, e := a.Copy(1, 2); many != g.Stripes || e != api.OK {
			t.Fatal(g, many, e)
		}
		isAs(t, "Copy", d, before, filled(g, 2, text))
	}
}

// P13.1: a stripe that can't be read ends it: those ahead of it are written, those behind it aren't, and 0 is told.
func TestCopyBad(t *testing.T) {
	r := dice{12}
	for _, g := range geos() {
		for bad := range g.Stripes {
			a, d := noisy(t, g)
			image := noise(room(g), 3)
			h := top(api.Version{3}, image)
			putAll(t, d, filled(g, 1, headed(h)+image))
			for _, i := range r.some(g.Parity+1, g.Data+g.Parity) {
				told(t, d, place(g, 1, bad, i), &r)
			}
			want := filled(g, 2, headed(h)+image)
			for at := bad; at < g.Stripes; at++ {
				for i := range g.Data + g.Parity {
					delete(want, place(g, 2, at, i))
				}
			}
			before := dump(d)
			if many, e := a.Copy(1, 2); many != 0 || e != api.ErrBad {
				t.Fatal(g, many, e)
			}
			isAs(t, "Copy", d, before, want)
		}
	}
}

// P13.1: a slot isn't copied to itself.
func TestCopyItself(t *testing.T) {
	a, d := noisy(t, shape(2, 2, 2))
	before := dump(d)
	for slot := range 3 {
		if n, e := a.Copy(slot, slot); n != 0 || e != api.ErrArg {
			t.Error(slot, n, e)
		}
	}
	if d.Ops() != 0 {
		t.Error(d.Ops())
	}
	isAs(t, "Copy", d, before, nil)
}

// P13.1: of no area all are refused, and nothing is told; that is asked ahead of all else.
func TestNil(t *testing.T) {
	for _, a := range []*area.Area{nil, {}} {
		for _, n := range append(far(), 0, 1, 2) {
			l := append(answers(a, n, n), answer{"Write of nothing", a.Write(n, n), true}, answer{"Rewrite of nothing", a.Rewrite(n, n, stripe.Found{}), true})
			l = append(l, answer{"Fill with what is too long", a.Fill(n, top(api.Version{}, noise(9999, 1)), noise(9999, 1)), true})
			for _, x := range l {
				if x.e != api.ErrArg || !x.nothing {
					t.Error(n, x)
				}
			}
		}
		if a.Device() != nil {
			t.Error(a.Device())
		}
	}
}

// Rule 2 of the document: no argument is written into, not even behind its end, and no answer shares memory with one or with another answer.
func TestNothingShared(t *testing.T) {
	g := shape(2, 2, 2)
	a, d := made(t, g)
	blocks := someBlocks(8, 1)
	which := []int{3, 1, 2, 0}
	f := stripe.Found{Blocks: blocks[:4], Wrong: which[:1]}
	seen := slices.Clone(blocks)
	if e := a.Write(1, 0, blocks[:2]...); e != api.OK {
		t.Fatal(e)
	}
	if e := a.Rewrite(1, 1, f, which[:3]...); e != api.OK {
		t.Fatal(e)
	}
	if !slices.Equal(blocks, seen) || !slices.Equal(which, []int{3, 1, 2, 0}) {
		t.Error("an argument was written into")
	}
	before := dump(d)
	clear(blocks)
	isAs(t, "Write", d, before, nil)
	d.Rot(place(g, 1, 0, 2)*64, 1)
	one, _ := a.Read(1, 0)
	other, _ := a.Read(1, 0)
	clear(one.Blocks)
	clear(one.Wrong)
	if !slices.Equal(other.Blocks[:2], seen[:2]) || !slices.Equal(other.Wrong, []int{2}) {
		t.Error("Read's answer is shared")
	}
	h := top(api.Version{}, "abc")
	text, _ := area.Text(g, h, "abc")
	again, _ := area.Text(g, h, "abc")
	clear(text)
	if !slices.Equal(textsOf(again...), cut(g, headed(h)+"abc")) {
		t.Error("Text's answer is shared")
	}
}

// P13.1: two areas of one device see the same.
func TestTwo(t *testing.T) {
	g := shape(2, 2, 2)
	a, d := made(t, g)
	b := over(t, g, d)
	h := top(api.Version{1}, "abc")
	if e := a.Fill(1, h, "abc"); e != api.OK {
		t.Fatal(e)
	}
	if got, s, n, e := b.Load(1); got != h || s != "abc" || n != 0 || e != api.OK {
		t.Error(got, s, n, e)
	}
	if e := b.Wipe(1); e != api.OK {
		t.Fatal(e)
	}
	if blank, e := a.Blank(1); !blank || e != api.OK {
		t.Error(blank, e)
	}
}
