package flash_test

import (
	"fmt"
	"math"
	"strings"
	"testing"

	"triptych/api"
	"triptych/flash"
)

// device is a device that there is.
func device(t *testing.T, sectors int) *flash.Dev {
	t.Helper()
	d, e := flash.New(sectors)
	if d == nil || e != api.OK {
		t.Fatal(sectors, d, e)
	}
	return d
}

// page is a page of one byte, again and again.
func page(b byte) string { return strings.Repeat(string([]byte{b}), api.Page) }

// run is n bytes, all of them b.
func run(n int, b byte) string { return strings.Repeat(string([]byte{b}), n) }

// chance answers numbers that look like chance, and are always the same ones.
func chance() func(below int) int {
	s := uint32(1)
	return func(below int) int {
		s = s*1664525 + 1013904223
		return int(s>>8) % below
	}
}

// some is n bytes.
func some(next func(int) int, n int) string {
	l := make([]byte, n)
	for i := range l {
		l[i] = byte(next(256))
	}
	return string(l)
}

// fresh is a device with other bytes than blank ones everywhere that can be read off: it is told when they aren't laid.
func fresh(t *testing.T, sectors int, text string) *flash.Dev {
	t.Helper()
	d := device(t, sectors)
	for at := 0; at < sectors*api.Sector; at += api.Page {
		p := text[at%len(text):][:api.Page]
		ok(t, d.Program(at, p))
	}
	return d
}

// ok tells it when an error isn't OK.
func ok(t *testing.T, e api.Errno) {
	t.Helper()
	if e != api.OK {
		t.Fatal("error", e)
	}
}

// all is a device's bytes.
func all(d *flash.Dev) string {
	var b strings.Builder
	for i := range d.Sectors() {
		b.WriteString(d.Dump(i))
	}
	return b.String()
}

// sectors are all sectors of a device.
func sectors(d *flash.Dev) []int {
	l := make([]int, d.Sectors())
	for i := range l {
		l[i] = i
	}
	return l
}

// state is all that the looks tell of a device.
type state struct {
	bytes, locks     string
	sectors, ops     int
	down             bool
	wear, first, far int
}

// String is a state as a line that can be read.
func (s state) String() string {
	return fmt.Sprintf("%q %s %d %d %v %d %d %d", s.bytes, s.locks, s.sectors, s.ops, s.down, s.wear, s.first, s.far)
}

// look is a device's state.
func look(d *flash.Dev) state {
	locks := ""
	for i := range d.Sectors() {
		if d.Locked(i) {
			locks += "x"
		} else {
			locks += "."
		}
	}
	return state{all(d), locks, d.Sectors(), d.Ops(), d.Down(), d.Wear(sectors(d)...), d.Wear(0), d.Wear(d.Sectors() - 1)}
}

// keeps tells it when f doesn't answer the error that is wanted, or leaves a device otherwise than it was.
func keeps(t *testing.T, d *flash.Dev, want api.Errno, f func() api.Errno) {
	t.Helper()
	was := look(d)
	if e := f(); e != want {
		t.Error("error", e, "and not", want)
	}
	if look(d) != was {
		t.Error("a call that is refused changes the device", was, look(d))
	}
}

// readRefused tells it when a read isn't refused so.
func readRefused(t *testing.T, d *flash.Dev, want api.Errno, at, n int) {
	t.Helper()
	keeps(t, d, want, func() api.Errno {
		s, e := d.Read(at, n)
		if s != "" {
			t.Errorf("bytes beside an error %d %d %q", at, n, s)
		}
		return e
	})
}

// P8.1: what the chapter's example says.
func TestExample(t *testing.T) {
	d := device(t, 1)
	ok(t, d.Program(16, page(15)))
	ok(t, d.Program(16, page(60)))
	if s := d.Dump(0); s != page(255)+page(12)+page(255)+page(255) {
		t.Errorf("%q", s)
	}
}

// P8.1: New makes devices from 1 to 512 sectors; all is blank, unlocked, up, and nothing was done.
func TestNew(t *testing.T) {
	for n := -70; n <= 600; n++ {
		d, e := flash.New(n)
		if n < 1 || n > 512 {
			if d != nil || e != api.ErrArg {
				t.Fatal(n, d, e)
			}
			continue
		}
		if d == nil || e != api.OK {
			t.Fatal(n, d, e)
		}
		want := state{bytes: run(64*n, 255), locks: strings.Repeat(".", n), sectors: n}
		if look(d) != want {
			t.Fatal(n, look(d))
		}
		if s, e := d.Read(0, 64*n); e != api.OK || s != want.bytes {
			t.Fatal(n, e)
		}
	}
	for _, n := range []int{math.MinInt, math.MinInt + 1, -1 << 58, 1 << 32, 1<<32 + 1, 1 << 58, 1<<58 + 1, math.MaxInt} {
		if d, e := flash.New(n); d != nil || e != api.ErrArg {
			t.Error(n, d, e)
		}
	}
}

// P8.1: two devices are two.
func TestNewIsApart(t *testing.T) {
	a, b := device(t, 2), device(t, 2)
	was := look(b)
	ok(t, a.Program(0, page(0)))
	ok(t, a.Erase(1))
	ok(t, a.Lock(0, 1))
	a.Fuse(0, flash.Torn{})
	a.Erase(1)
	if look(b) != was {
		t.Error(look(b))
	}
}

// P8.1: Read answers each run of bytes that there is, of none as well, and refuses all others.
func TestRead(t *testing.T) {
	text := some(chance(), 128)
	d := fresh(t, 2, text)
	for at := -3; at < 135; at++ {
		for n := -3; n < 135; n++ {
			if at < 0 || n < 0 || at+n > 128 {
				readRefused(t, d, api.ErrRange, at, n)
				continue
			}
			ops, was := d.Ops(), all(d)
			s, e := d.Read(at, n)
			if e != api.OK || s != text[at:at+n] || d.Ops() != ops+1 || all(d) != was {
				t.Fatalf("%d %d %q %v", at, n, s, e)
			}
		}
	}
}

// P8.1: Read refuses numbers at the ends of int, whose sums leave it, and tells ErrDown ahead of that.
func TestReadWrong(t *testing.T) {
	d := device(t, 2)
	far := []int{math.MinInt, math.MinInt + 1, -1 << 32, -1, 1, 129, 1 << 32, math.MaxInt - 1, math.MaxInt}
	for _, down := range []bool{false, true} {
		want := api.ErrRange
		if down {
			d.Fuse(0, flash.Torn{})
			d.Erase(0)
			want = api.ErrDown
		}
		for _, at := range far {
			for _, n := range far {
				if at != 1 || n != 1 || down {
					readRefused(t, d, want, at, n)
				}
			}
		}
		readRefused(t, d, want, 129, 0)
		readRefused(t, d, want, math.MaxInt, 0)
		readRefused(t, d, want, 0, -1)
	}
	readRefused(t, d, api.ErrDown, 0, 0)
	readRefused(t, d, api.ErrDown, 0, 1)
}

// P8.1, P8.2: Erase makes a sector's bytes 255, whatever they were, and no others.
func TestErase(t *testing.T) {
	for n := 1; n <= 5; n++ {
		text := some(chance(), 320)
		for i := range n {
			d := fresh(t, n, text)
			ops := d.Ops()
			ok(t, d.Erase(i))
			want := text[:64*i] + run(64, 255) + text[64*i+64:64*n]
			if all(d) != want || d.Ops() != ops+1 || d.Wear(i) != 1 || d.Wear(sectors(d)...) != 1 {
				t.Fatal(n, i, look(d))
			}
		}
	}
	d := device(t, 512)
	for i := range 512 {
		ok(t, d.Program(64*i, page(byte(i))))
	}
	ok(t, d.Erase(511))
	if d.Dump(511) != run(64, 255) || d.Dump(510) == run(64, 255) || d.Dump(0) == run(64, 255) {
		t.Error("the last of 512")
	}
}

// P8.1: Erase tells ErrDown, then ErrRange, then ErrLock, and changes nothing then.
func TestEraseWrong(t *testing.T) {
	d := fresh(t, 3, some(chance(), 192))
	ok(t, d.Lock(1, 3))
	far := []int{math.MinInt, -1 << 58, -64, -3, -1, 3, 4, 64, 192, 1 << 32, 1 << 58, math.MaxInt}
	for _, i := range far {
		keeps(t, d, api.ErrRange, func() api.Errno { return d.Erase(i) })
	}
	keeps(t, d, api.ErrLock, func() api.Errno { return d.Erase(1) })
	keeps(t, d, api.ErrLock, func() api.Errno { return d.Erase(2) })
	d.Fuse(0, flash.Torn{})
	d.Erase(0)
	for _, i := range append(far, 0, 1, 2) {
		keeps(t, d, api.ErrDown, func() api.Errno { return d.Erase(i) })
	}
}

// P8.1: each byte, programmed with each byte, keeps the bits that are 1 in both.
func TestProgramEachByte(t *testing.T) {
	d := device(t, 1)
	for a := range 256 {
		for b := 0; b < 256; b += api.Page {
			var l [api.Page]byte
			want := ""
			for i := range l {
				l[i] = byte(b + i)
				both := byte(0)
				for bit := range 8 {
					if a>>bit&1 == 1 && l[i]>>bit&1 == 1 {
						both += 1 << bit
					}
				}
				want += string([]byte{both})
			}
			ok(t, d.Erase(0))
			ok(t, d.Program(32, page(byte(a))))
			ok(t, d.Program(32, string(l[:])))
			if s := d.Dump(0); s != run(32, 255)+want+page(255) {
				t.Fatalf("%d %d %q", a, b, s)
			}
		}
	}
}

// P8.1, P8.2: Program changes its page alone, wherever it lies.
func TestProgram(t *testing.T) {
	text := some(chance(), 192)
	for at := 0; at < 192; at += api.Page {
		d := fresh(t, 3, text)
		ops := d.Ops()
		ok(t, d.Program(at, page(0)))
		if all(d) != text[:at]+page(0)+text[at+16:] || d.Ops() != ops+1 || d.Wear(0, 1, 2) != 0 {
			t.Fatal(at, look(d))
		}
	}
	d := device(t, 512)
	ok(t, d.Program(512*64-16, page(7)))
	if d.Dump(511) != run(48, 255)+page(7) {
		t.Errorf("%q", d.Dump(511))
	}
}

// P8.1: Program tells ErrDown, then ErrAlign, then ErrRange, then ErrLock, and changes nothing then.
func TestProgramWrong(t *testing.T) {
	d := fresh(t, 2, some(chance(), 128))
	ok(t, d.Lock(1, 2))
	far := []int{math.MinInt, math.MinInt + 1, math.MinInt + 16, -1 << 32, -64, -17, -16, -15, -1, 1 << 32, 1<<32 + 1, math.MaxInt - 15, math.MaxInt - 1, math.MaxInt}
	for at := range 300 {
		far = append(far, at)
	}
	sizes := []int{0, 1, 15, 16, 17, 32, 64, 128}
	for _, at := range far {
		for _, n := range sizes {
			want := api.ErrAlign
			switch {
			case at&15 != 0 || n != 16:
			case at < 0 || at >= 128:
				want = api.ErrRange
			case at >= 64:
				want = api.ErrLock
			default:
				continue
			}
			keeps(t, d, want, func() api.Errno { return d.Program(at, run(n, 0)) })
		}
	}
	d.Fuse(0, flash.Torn{})
	d.Program(0, page(1))
	for _, at := range far {
		for _, n := range sizes {
			keeps(t, d, api.ErrDown, func() api.Errno { return d.Program(at, run(n, 0)) })
		}
	}
}

// P8.1: Lock locks just those sectors, more at each call, and refuses what isn't there, whether the device is down or not.
func TestLock(t *testing.T) {
	for _, down := range []bool{false, true} {
		for from := -2; from < 8; from++ {
			for to := -2; to < 8; to++ {
				d := device(t, 5)
				ok(t, d.Lock(4, 5))
				if down {
					d.Fuse(0, flash.Torn{})
					d.Erase(0)
				}
				if from < 0 || to < from || to > 5 {
					keeps(t, d, api.ErrRange, func() api.Errno { return d.Lock(from, to) })
					continue
				}
				was := look(d)
				ok(t, d.Lock(from, to))
				for i := -2; i < 8; i++ {
					if d.Locked(i) != (i == 4 || from <= i && i < to) {
						t.Fatal(from, to, i, d.Locked(i))
					}
				}
				was.locks = look(d).locks
				if look(d) != was {
					t.Fatal(from, to, look(d))
				}
			}
		}
	}
}

// P8.1: Lock and Locked of numbers far away.
func TestLockWrong(t *testing.T) {
	d := device(t, 3)
	far := []int{math.MinInt, -1 << 32, -1, 4, 1 << 32, 1<<32 + 2, math.MaxInt}
	for _, a := range far {
		for _, b := range far {
			keeps(t, d, api.ErrRange, func() api.Errno { return d.Lock(a, b) })
		}
		keeps(t, d, api.ErrRange, func() api.Errno { return d.Lock(0, a) })
		keeps(t, d, api.ErrRange, func() api.Errno { return d.Lock(a, 3) })
	}
	ok(t, d.Lock(0, 3))
	for _, i := range far {
		if d.Locked(i) {
			t.Error(i)
		}
	}
}

// P8.1, P8.2: what is locked isn't erased or programmed any more, and stays locked; the sectors beside it are as ever.
func TestLocked(t *testing.T) {
	text := some(chance(), 256)
	d := fresh(t, 4, text)
	ok(t, d.Lock(1, 3))
	for i := range 4 {
		want := api.OK
		if i == 1 || i == 2 {
			want = api.ErrLock
		}
		for at := 64 * i; at < 64*i+64; at += api.Page {
			if e := d.Program(at, page(0)); e != want {
				t.Error(at, e)
			}
		}
		if e := d.Erase(i); e != want {
			t.Error(i, e)
		}
	}
	d.PowerOn()
	d.Fuse(3, flash.Torn{})
	d.Fuse(-1, flash.Torn{})
	ok(t, d.Lock(0, 0))
	keeps(t, d, api.ErrLock, func() api.Errno { return d.Erase(1) })
	keeps(t, d, api.ErrLock, func() api.Errno { return d.Program(176, page(0)) })
	if all(d) != run(64, 255)+text[64:192]+run(64, 255) || d.Wear(1, 2) != 0 {
		t.Error(look(d))
	}
}

// P8.1: a fuse lets just so many erases and programs be done, then one is torn; what is refused, and other calls, don't count.
func TestFuseCounts(t *testing.T) {
	for n := range 12 {
		d := device(t, 4)
		ok(t, d.Lock(3, 4))
		d.Fuse(n, flash.Torn{Bytes: 5})
		for i := range n {
			if i%2 == 0 {
				ok(t, d.Erase(i%3))
			} else {
				ok(t, d.Program(16*i, page(3)))
			}
			d.Read(0, 64)
			d.Read(0, -1)
			d.Erase(4)
			d.Erase(3)
			d.Program(1, page(0))
			d.Program(0, "")
			d.Program(256, page(0))
			d.Program(192, page(0))
			ok(t, d.Rot(0, 1))
			ok(t, d.Lock(2, 2))
			d.Dump(0)
			d.Copy().Erase(0)
			if d.Down() {
				t.Fatal(n, i)
			}
		}
		ops := d.Ops()
		if e := d.Program(0, page(0)); e != api.ErrDown || !d.Down() || d.Ops() != ops+1 {
			t.Fatal(n, e, d.Down(), d.Ops())
		}
		d.PowerOn()
		for range 20 {
			ok(t, d.Erase(0))
		}
	}
}

// P8.1: of two fuses the later one holds; one below 0 is none, and so is one of a device whose power came on.
func TestFuseAnew(t *testing.T) {
	d := device(t, 1)
	d.Fuse(0, flash.Torn{Bytes: 1})
	d.Fuse(2, flash.Torn{Bytes: 2, Mask: 255})
	ok(t, d.Erase(0))
	ok(t, d.Erase(0))
	if e := d.Program(0, page(0)); e != api.ErrDown || d.Dump(0)[:3] != "\x00\x00\xff" {
		t.Errorf("%v %q", e, d.Dump(0))
	}
	// While it is down a fuse can be laid, but goes with the power.
	d.Fuse(0, flash.Torn{})
	if !d.Down() {
		t.Error("a fuse isn't power")
	}
	d.PowerOn()
	ok(t, d.Erase(0))
	for _, n := range []int{-1, -2, math.MinInt} {
		d.Fuse(0, flash.Torn{})
		d.Fuse(n, flash.Torn{})
		for range 5 {
			ok(t, d.Erase(0))
		}
	}
	d.Fuse(0, flash.Torn{})
	d.PowerOn()
	ok(t, d.Erase(0))
	d.Fuse(1, flash.Torn{})
	ok(t, d.Erase(0))
	d.Fuse(1, flash.Torn{})
	ok(t, d.Erase(0))
	if e := d.Erase(0); e != api.ErrDown {
		t.Error(e)
	}
	d.PowerOn()
	d.Fuse(math.MaxInt, flash.Torn{})
	for range 5 {
		ok(t, d.Erase(0))
	}
}

// P8.1: what the device was told of how to tear holds at the erase or program that is torn alone.
func TestFuseLeavesOthers(t *testing.T) {
	d := device(t, 1)
	d.Fuse(1, flash.Torn{Bytes: 3, Mask: 170})
	ok(t, d.Program(0, page(0)))
	if d.Dump(0) != page(0)+run(48, 255) {
		t.Errorf("%q", d.Dump(0))
	}
	d.Fuse(1, flash.Torn{Bytes: 3, Mask: 170})
	ok(t, d.Erase(0))
	if d.Dump(0) != run(64, 255) {
		t.Errorf("%q", d.Dump(0))
	}
}

// modulo is b modulo m, found by steps.
func modulo(b, m int) int {
	for b < 0 {
		b += m
	}
	for b >= m {
		b -= m
	}
	return b
}

// bits is a byte whose bits pick tells.
func bits(pick func(bit int) bool) byte {
	b := byte(0)
	for i := range 8 {
		if pick(i) {
			b |= 1 << i
		}
	}
	return b
}

// P8.1: a torn erase: so many bytes are 255, the bits of Mask are 1 in the one behind them, all others are as they were; it counts.
func TestTornErase(t *testing.T) {
	next := chance()
	for b := -200; b <= 200; b++ {
		for _, mask := range []byte{0, 1, 128, 15, 240, 255, byte(next(256))} {
			text := some(next, 192)
			d := fresh(t, 3, text)
			ops := d.Ops()
			d.Fuse(0, flash.Torn{Bytes: b, Mask: mask})
			if e := d.Erase(1); e != api.ErrDown || !d.Down() || d.Ops() != ops+1 || d.Wear(1) != 1 || d.Wear(0, 2) != 0 {
				t.Fatal(b, mask, e, look(d))
			}
			done := modulo(b, 65)
			want := text[:64] + run(done, 255)
			if done < 64 {
				want += string([]byte{text[64+done] | mask}) + text[65+done:128]
			}
			want += text[128:]
			if all(d) != want {
				t.Fatalf("%d %d\n%q\n%q", b, mask, all(d), want)
			}
		}
	}
}

// P8.1: a torn program: so many bytes are done, the bits of Mask stay in the one behind them, all others are as they were; it counts.
func TestTornProgram(t *testing.T) {
	next := chance()
	for b := -60; b <= 60; b++ {
		for _, mask := range []byte{0, 1, 128, 15, 240, 255, byte(next(256))} {
			text, p := some(next, 128), some(next, 16)
			at := 16 * next(8)
			d := fresh(t, 2, text)
			ops := d.Ops()
			d.Fuse(0, flash.Torn{Bytes: b, Mask: mask})
			if e := d.Program(at, p); e != api.ErrDown || !d.Down() || d.Ops() != ops+1 || d.Wear(0, 1) != 0 {
				t.Fatal(b, mask, e, look(d))
			}
			done := modulo(b, 17)
			want := text[:at]
			for i := range done {
				want += string([]byte{text[at+i] & p[i]})
			}
			if done < 16 {
				old := text[at+done]
				want += string([]byte{bits(func(i int) bool {
					return old>>i&1 == 1 && (mask>>i&1 == 1 || p[done]>>i&1 == 1)
				})}) + text[at+done+1:at+16]
			}
			want += text[at+16:]
			if all(d) != want {
				t.Fatalf("%d %d\n%q\n%q", b, mask, all(d), want)
			}
		}
	}
}

// P8.1: each Mask, at each byte that was there, and each that is programmed.
func TestEachMask(t *testing.T) {
	next := chance()
	d := device(t, 1)
	for mask := range 256 {
		for old := range 256 {
			b := byte(next(256))
			ok(t, d.Erase(0))
			ok(t, d.Program(0, page(byte(old))))
			d.Fuse(0, flash.Torn{Bytes: 2, Mask: byte(mask)})
			if e := d.Program(0, page(b)); e != api.ErrDown {
				t.Fatal(e)
			}
			part := byte(old)&byte(mask) | byte(old)&b&^byte(mask)
			if s := d.Dump(0); s != run(2, byte(old)&b)+string([]byte{part})+run(13, byte(old))+run(48, 255) {
				t.Fatalf("%d %d %d %q", mask, old, b, s)
			}
			d.PowerOn()
			d.Fuse(0, flash.Torn{Bytes: 3, Mask: byte(mask)})
			if e := d.Erase(0); e != api.ErrDown {
				t.Fatal(e)
			}
			part = byte(old) | byte(mask)
			if s := d.Dump(0); s != run(3, 255)+string([]byte{part})+run(12, byte(old))+run(48, 255) {
				t.Fatalf("%d %d %d %q", mask, old, b, s)
			}
			d.PowerOn()
		}
	}
}

// P8.1: Bytes at the ends of int.
func TestTornFar(t *testing.T) {
	// As 2^6 is -1 modulo 65, and 2^4 is -1 modulo 17, 2^63 is 8 and 9 there, and 2^32 is 61 and 1.
	for _, c := range []struct{ bytes, erased, programmed int }{
		{math.MaxInt, 7, 8}, {math.MinInt, 57, 8}, {65, 0, 14}, {64, 64, 13}, {-1, 64, 16}, {16, 16, 16}, {17, 17, 0}, {1 << 32, 61, 1}, {-65, 0, 3}, {-17, 48, 0},
	} {
		d := fresh(t, 1, page(0))
		d.Fuse(0, flash.Torn{Bytes: c.bytes})
		d.Erase(0)
		if s := d.Dump(0); s != run(c.erased, 255)+run(64-c.erased, 0) {
			t.Errorf("%d %q", c.bytes, s)
		}
		d = device(t, 1)
		d.Fuse(0, flash.Torn{Bytes: c.bytes, Mask: 255})
		d.Program(0, page(0))
		if s := d.Dump(0); s != run(c.programmed, 0)+run(64-c.programmed, 255) {
			t.Errorf("%d %q", c.bytes, s)
		}
	}
}

// P8.1: of a device that is down Read, Erase and Program alone are refused; PowerOn lets it be as it was left.
func TestDown(t *testing.T) {
	text := some(chance(), 192)
	d := fresh(t, 3, text)
	d.Fuse(0, flash.Torn{Bytes: 65})
	d.Erase(0)
	for range 3 {
		readRefused(t, d, api.ErrDown, 0, 1)
		keeps(t, d, api.ErrDown, func() api.Errno { return d.Erase(0) })
		keeps(t, d, api.ErrDown, func() api.Errno { return d.Program(0, page(0)) })
	}
	ok(t, d.Lock(1, 2))
	ok(t, d.Rot(64, 255))
	keeps(t, d, api.ErrRange, func() api.Errno { return d.Rot(192, 1) })
	want := text[:64] + string([]byte{^text[64]}) + text[65:]
	if !d.Down() || all(d) != want || !d.Locked(1) || d.Locked(2) || d.Sectors() != 3 || d.Wear(0, 1, 2) != 1 || d.Ops() != 13 {
		t.Error(look(d))
	}
	// What is down tells ErrDown of what is locked, too.
	keeps(t, d, api.ErrDown, func() api.Errno { return d.Erase(1) })
	d.PowerOn()
	d.PowerOn()
	if s, e := d.Read(0, 192); d.Down() || e != api.OK || s != want {
		t.Errorf("%v %v %q", d.Down(), e, s)
	}
	keeps(t, d, api.ErrLock, func() api.Errno { return d.Erase(1) })
	ok(t, d.Erase(0))
}

// P8.1, P8.2: Rot turns just these bytes, bit by bit, twice is none, also where it is locked; it is no operation.
func TestRot(t *testing.T) {
	text := some(chance(), 128)
	d := fresh(t, 2, text)
	ok(t, d.Lock(0, 1))
	want := []byte(text)
	ops := d.Ops()
	for b := range 256 {
		for _, at := range []int{0, 5, 62, 63, 64, 125} {
			ok(t, d.Rot(at, byte(b), 0, byte(255-b)))
			want[at] ^= byte(b)
			want[at+2] ^= byte(255 - b)
			if all(d) != string(want) {
				t.Fatal(b, at)
			}
		}
	}
	was := all(d)
	turned := []byte(some(chance(), 128))
	ok(t, d.Rot(0, turned...))
	if all(d) == was {
		t.Error("nothing is turned")
	}
	ok(t, d.Rot(0, turned...))
	if all(d) != was || d.Ops() != ops || d.Wear(0, 1) != 0 {
		t.Error("turned twice")
	}
}

// P8.1: Rot refuses what isn't all there, and turns nothing then; of no bytes too.
func TestRotWrong(t *testing.T) {
	d := fresh(t, 2, some(chance(), 128))
	for at := -3; at < 135; at++ {
		for n := range 135 {
			want := api.ErrRange
			if at >= 0 && at+n <= 128 {
				want = api.OK
			}
			if want == api.OK && n > 0 {
				continue
			}
			keeps(t, d, want, func() api.Errno { return d.Rot(at, []byte(run(n, 255))...) })
		}
	}
	for _, at := range []int{math.MinInt, -1 << 32, 1 << 32, math.MaxInt - 1, math.MaxInt} {
		for n := range 3 {
			keeps(t, d, api.ErrRange, func() api.Errno { return d.Rot(at, []byte(run(n, 255))...) })
		}
	}
	if e := d.Rot(127, 1); e != api.OK {
		t.Error(e)
	}
}

// P8.1 with rule 2: the bytes that are handed to Rot aren't written into, and turning them later turns nothing.
func TestRotOwnMemory(t *testing.T) {
	d := device(t, 1)
	l := []byte{1, 2, 3, 4}
	ok(t, d.Rot(0, l[:3]...))
	was := all(d)
	if string(l) != "\x01\x02\x03\x04" || was[:4] != "\xfe\xfd\xfc\xff" {
		t.Errorf("%v %q", l, was)
	}
	l[0], l[1] = 77, 78
	ok(t, d.Erase(0))
	if all(d) != run(64, 255) {
		t.Errorf("%q", all(d))
	}
}

// P8.1: Dump is a sector's bytes, "" of one that there isn't.
func TestDump(t *testing.T) {
	text := some(chance(), 192)
	d := fresh(t, 3, text)
	for i := -2; i < 6; i++ {
		want := ""
		if i >= 0 && i < 3 {
			want = text[64*i : 64*i+64]
		}
		if s := d.Dump(i); s != want {
			t.Errorf("%d %q", i, s)
		}
	}
	for _, i := range []int{math.MinInt, -1 << 58, 1 << 58, 1<<58 + 1, math.MaxInt} {
		if s := d.Dump(i); s != "" {
			t.Errorf("%d %q", i, s)
		}
	}
	if d.Ops() != 12 {
		t.Error("a look is no read", d.Ops())
	}
}

// P8.1: Ops counts reads, erases and programs, those that are torn as well, and nothing that is refused.
func TestOps(t *testing.T) {
	d := device(t, 2)
	n := 0
	step := func(more int, f func()) {
		t.Helper()
		f()
		if n += more; d.Ops() != n {
			t.Error(d.Ops(), n)
			n = d.Ops()
		}
	}
	step(1, func() { d.Read(0, 1) })
	step(1, func() { d.Read(0, 128) })
	step(1, func() { d.Read(128, 0) })
	step(0, func() { d.Read(129, 0) })
	step(1, func() { d.Erase(0) })
	step(0, func() { d.Erase(2) })
	step(1, func() { d.Program(0, page(255)) })
	step(0, func() { d.Program(1, page(255)) })
	step(0, func() { d.Lock(0, 1) })
	step(0, func() { d.Erase(0) })
	step(0, func() { d.Program(0, page(0)) })
	step(0, func() { d.Rot(0, 1, 2, 3) })
	step(0, func() { d.Wear(0); d.Locked(0); d.Sectors(); d.Down(); d.Copy().Read(0, 1) })
	step(0, func() { d.Fuse(0, flash.Torn{}) })
	step(1, func() { d.Read(0, 1) })
	step(1, func() { d.Erase(1) })
	step(0, func() { d.Erase(1) })
	step(0, func() { d.Read(0, 1) })
	step(0, func() { d.PowerOn() })
	step(0, func() { d.Fuse(0, flash.Torn{}) })
	step(1, func() { d.Program(64, page(0)) })
}

// P8.1: Wear is how often sectors were erased, torn or not, those that stand there twice twice.
func TestWear(t *testing.T) {
	d := device(t, 5)
	for i := range 5 {
		for range i {
			ok(t, d.Erase(i))
			ok(t, d.Program(64*i, page(0)))
		}
	}
	d.Fuse(0, flash.Torn{})
	d.Erase(4)
	d.Erase(4)
	d.PowerOn()
	ok(t, d.Lock(3, 4))
	d.Erase(3)
	d.Erase(5)
	for _, c := range []struct {
		l    []int
		want int
	}{
		{nil, 0}, {[]int{}, 0}, {[]int{0}, 0}, {[]int{1}, 1}, {[]int{2}, 2}, {[]int{3}, 3}, {[]int{4}, 5},
		{[]int{0, 1, 2, 3, 4}, 11}, {[]int{4, 2}, 7}, {[]int{2, 2}, 4}, {[]int{4, 4, 1, 4}, 16},
		{[]int{-1}, 0}, {[]int{5}, 0}, {[]int{5, 4, -1, 3, 512}, 8}, {[]int{math.MinInt, 1, math.MaxInt, 1 << 32}, 1},
	} {
		if n := d.Wear(c.l...); n != c.want {
			t.Error(c.l, n, c.want)
		}
	}
}

// P8.1: a copy has the same bytes, locks, fuse and counts, is down if the device is, and what happens to one doesn't happen to the other.
func TestCopy(t *testing.T) {
	for _, torn := range []bool{false, true} {
		d := fresh(t, 4, some(chance(), 256))
		ok(t, d.Erase(3))
		ok(t, d.Lock(1, 2))
		d.Fuse(0, flash.Torn{})
		d.Fuse(1, flash.Torn{Bytes: 3, Mask: 64})
		if torn {
			d.Erase(2)
			d.Erase(2)
		}
		c := d.Copy()
		if c == nil || c == d || look(c) != look(d) || c.Down() != torn {
			t.Fatal(look(d), look(c))
		}
		for range 2 {
			was := look(c)
			d.PowerOn()
			ok(t, d.Program(0, page(0)))
			ok(t, d.Erase(0))
			ok(t, d.Lock(2, 3))
			ok(t, d.Rot(200, 1))
			d.Fuse(0, flash.Torn{})
			d.Erase(3)
			if look(c) != was {
				t.Fatal(was, look(c))
			}
			c, d = d, c
		}
	}
}

// P8.1: a copy's fuse is as long as the device's was, and tears likewise.
func TestCopyFuse(t *testing.T) {
	for n := -1; n < 4; n++ {
		for after := range 3 {
			d := fresh(t, 2, page(0))
			d.Fuse(n, flash.Torn{Bytes: 5, Mask: 3})
			for range after {
				d.Erase(0)
			}
			c := d.Copy()
			for range 5 {
				if e, g := d.Erase(1), c.Erase(1); e != g || look(d) != look(c) {
					t.Fatal(n, after, e, g, look(d), look(c))
				}
			}
			if d.Down() != (n >= 0) {
				t.Fatal(n, after)
			}
		}
	}
}

// P8.1: no device answers ErrArg and nothing, and is down, whatever it is asked: a nil one, and one that New didn't make.
func TestNone(t *testing.T) {
	for _, d := range []*flash.Dev{nil, {}} {
		for range 2 {
			for _, i := range []int{math.MinInt, -16, -1, 0, 1, 16, math.MaxInt} {
				if s, e := d.Read(i, 0); s != "" || e != api.ErrArg {
					t.Errorf("%d %q %v", i, s, e)
				}
				for _, e := range []api.Errno{d.Erase(i), d.Program(i, page(0)), d.Program(i, ""), d.Lock(i, i), d.Lock(0, 1), d.Rot(i), d.Rot(i, 1, 2)} {
					if e != api.ErrArg {
						t.Error(i, e)
					}
				}
				if d.Locked(i) || d.Dump(i) != "" || d.Wear(i, 0) != 0 {
					t.Error(i)
				}
			}
			if !d.Down() || d.Sectors() != 0 || d.Ops() != 0 || d.Wear() != 0 || d.Copy() != nil {
				t.Error("nothing isn't nothing")
			}
			d.Fuse(0, flash.Torn{Bytes: 1})
			d.PowerOn()
			d.Fuse(-1, flash.Torn{})
		}
	}
}
