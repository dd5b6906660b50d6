package flash_test

import (
	"testing"

	"triptych/api"
	"triptych/flash"
)

// cell is a byte of a plain device: its bits, one by one.
type cell [8]bool

// of is a byte's bits.
func of(b byte) cell {
	var c cell
	for i := range c {
		c[i] = b>>i&1 == 1
	}
	return c
}

// plain is a device as the chapter's words tell it, with as many steps and as little skill as may be.
type plain struct {
	cells    []cell
	locked   map[int]bool
	erased   map[int]int
	ops      int
	down     bool
	fuse     int
	t        flash.Torn
	mayTurn  map[int]bool
	refusals map[api.Errno]int
}

// newPlain is a plain device: a fuse of -1 is none.
func newPlain(sectors int) *plain {
	p := &plain{locked: map[int]bool{}, erased: map[int]int{}, fuse: -1, refusals: map[api.Errno]int{}}
	for range 64 * sectors {
		p.cells = append(p.cells, of(255))
	}
	return p
}

// text is a device's bytes from at on.
func (p *plain) text(at, n int) string {
	var l []byte
	for i := at; i < at+n; i++ {
		l = append(l, bits(func(k int) bool { return p.cells[i][k] }))
	}
	return string(l)
}

// tears counts an erase or a program; it tells whether that is torn, and how many of n bytes are done.
func (p *plain) tears(n int) (bool, int) {
	p.ops++
	switch {
	case p.fuse < 0:
		return false, n
	case p.fuse > 0:
		p.fuse--
		return false, n
	}
	p.down = true
	return true, modulo(p.t.Bytes, n+1)
}

// read is Read.
func (p *plain) read(at, n int) (string, api.Errno) {
	switch {
	case p.down:
		return "", api.ErrDown
	case at < 0 || n < 0 || at+n > len(p.cells):
		return "", api.ErrRange
	}
	p.ops++
	return p.text(at, n), api.OK
}

// erase is Erase.
func (p *plain) erase(s int) api.Errno {
	switch {
	case p.down:
		return api.ErrDown
	case s < 0 || s >= len(p.cells)/64:
		return api.ErrRange
	case p.locked[s]:
		return api.ErrLock
	}
	p.erased[s]++
	torn, done := p.tears(64)
	for i := range 64 {
		p.may(64*s + i)
		for k := range 8 {
			if i < done || torn && i == done && of(p.t.Mask)[k] {
				p.cells[64*s+i][k] = true
			}
		}
	}
	if torn {
		return api.ErrDown
	}
	return api.OK
}

// program is Program.
func (p *plain) program(at int, page string) api.Errno {
	switch {
	case p.down:
		return api.ErrDown
	case modulo(at, 16) != 0 || len(page) != 16:
		return api.ErrAlign
	case at < 0 || at+16 > len(p.cells):
		return api.ErrRange
	case p.locked[at/64]:
		return api.ErrLock
	}
	torn, done := p.tears(16)
	for i := range 16 {
		p.may(at + i)
		for k := range 8 {
			if i < done || torn && i == done && !of(p.t.Mask)[k] {
				p.cells[at+i][k] = p.cells[at+i][k] && of(page[i])[k]
			}
		}
	}
	if torn {
		return api.ErrDown
	}
	return api.OK
}

// may notes that a byte may change by the call that goes on.
func (p *plain) may(at int) { p.mayTurn[at] = true }

// lock is Lock.
func (p *plain) lock(from, to int) api.Errno {
	if from < 0 || to < from || to > len(p.cells)/64 {
		return api.ErrRange
	}
	for i := from; i < to; i++ {
		p.locked[i] = true
	}
	return api.OK
}

// rot is Rot.
func (p *plain) rot(at int, by string) api.Errno {
	if at < 0 || at+len(by) > len(p.cells) {
		return api.ErrRange
	}
	for i := range len(by) {
		p.may(at + i)
		for k := range 8 {
			p.cells[at+i][k] = p.cells[at+i][k] != of(by[i])[k]
		}
	}
	return api.OK
}

// same tells it when a device isn't what the plain one is.
func same(t *testing.T, p *plain, d *flash.Dev) {
	t.Helper()
	n := len(p.cells) / 64
	if d.Sectors() != n || d.Down() != p.down || d.Ops() != p.ops || all(d) != p.text(0, 64*n) {
		t.Fatal("the device isn't the plain one", look(d), p.down, p.ops)
	}
	wear := 0
	for i := range n {
		wear += p.erased[i]
		if d.Locked(i) != p.locked[i] || d.Wear(i) != p.erased[i] {
			t.Fatal(i, d.Locked(i), d.Wear(i))
		}
	}
	if d.Wear(sectors(d)...) != wear {
		t.Fatal(wear, look(d))
	}
}

// near is a number about those below n, beyond them too.
func near(next func(int) int, n int) int {
	if next(8) == 0 {
		return next(3*n) - n
	}
	return next(n)
}

// call lets both devices do one thing, and tells it when they answer otherwise.
func call(t *testing.T, next func(int) int, p *plain, d *flash.Dev) {
	t.Helper()
	size := len(p.cells)
	var want, e api.Errno
	switch next(12) {
	case 0, 1:
		at, n := near(next, size+1), near(next, 40)
		var s, r string
		r, want = p.read(at, n)
		if s, e = d.Read(at, n); s != r {
			t.Fatalf("%d %d %q %q", at, n, s, r)
		}
	case 2, 3, 4:
		i := near(next, size/64)
		want, e = p.erase(i), d.Erase(i)
	case 5, 6, 7, 8:
		at, n := 16*near(next, size/16), 16
		if next(8) == 0 {
			at += next(16)
		}
		if next(8) == 0 {
			n = next(33)
		}
		text := some(next, n)
		want, e = p.program(at, text), d.Program(at, text)
	case 9:
		at, by := near(next, size+1), some(next, next(5))
		want, e = p.rot(at, by), d.Rot(at, []byte(by)...)
	case 10:
		p.t = flash.Torn{Bytes: near(next, 100), Mask: byte(next(256))}
		p.fuse = max(-1, next(12)-2)
		// Any number below 0 is no fuse.
		n := p.fuse
		if n < 0 {
			n -= next(3)
		}
		d.Fuse(n, p.t)
	case 11:
		if next(6) == 0 {
			from := near(next, size/64+1)
			to := from + next(2)
			want, e = p.lock(from, to), d.Lock(from, to)
		} else {
			p.down, p.fuse = false, -1
			d.PowerOn()
		}
	}
	if e != want {
		t.Fatal("error", e, "and not", want)
	}
	p.refusals[e]++
}

// P8.1, P8.2: many calls in many orders: all is as the chapter's words tell it, step by step, and just bytes that an erase, a program or rot is about change.
func TestScripts(t *testing.T) {
	next := chance()
	refusals := map[api.Errno]int{}
	for round := range 150 {
		n := 1 + round%6
		p, d := newPlain(n), device(t, n)
		p.refusals = refusals
		for range 120 {
			was := all(d)
			p.mayTurn = map[int]bool{}
			call(t, next, p, d)
			same(t, p, d)
			for i := range was {
				if now := d.Dump(i / 64)[i%64]; now != was[i] && !p.mayTurn[i] {
					t.Fatal("a byte changed by itself", i)
				}
			}
			if next(15) == 0 {
				d = d.Copy()
			}
		}
	}
	for _, e := range []api.Errno{api.OK, api.ErrRange, api.ErrAlign, api.ErrLock, api.ErrDown} {
		if refusals[e] < 100 {
			t.Error("the test's calls are of one kind", e, refusals[e])
		}
	}
}

// P8.2: of a device that is all locked no byte changes but by Rot, whatever is called.
func TestLockedScripts(t *testing.T) {
	next := chance()
	for range 40 {
		p, d := newPlain(3), device(t, 3)
		for range 30 {
			p.mayTurn = map[int]bool{}
			call(t, next, p, d)
		}
		d.PowerOn()
		ok(t, d.Lock(0, 3))
		was := []byte(all(d))
		for range 100 {
			switch next(6) {
			case 0:
				d.Erase(next(3))
			case 1:
				d.Program(16*next(12), some(next, 16))
			case 2:
				d.Fuse(next(3), flash.Torn{Bytes: next(70), Mask: byte(next(256))})
			case 3:
				d.PowerOn()
			case 4:
				at, b := next(192), byte(next(256))
				ok(t, d.Rot(at, b))
				was[at] ^= b
			case 5:
				d = d.Copy()
			}
			if all(d) != string(was) || d.Down() {
				t.Fatal(look(d))
			}
		}
	}
}
