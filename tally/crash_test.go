package tally_test

import (
	"slices"
	"testing"

	"triptych/api"
	"triptych/flash"
	"triptych/geo"
	"triptych/tally"
)

// masks are masks of bytes that are torn.
func masks() []byte {
	return []byte{0, 255, 1, 128, 15, 240, 0x55, 0xaa, 254, 127, 60}
}

// tornBump tears a Bump, and asks that the count, opened anew, is what it was, or one more; which of both is told by the bit, if both sectors had the same. The tally is what it is then.
func tornBump(t *testing.T, g geo.Geo, d *flash.Dev, cut int, torn flash.Torn) *tally.Tally {
	t.Helper()
	x := opened(t, g, d)
	n, even := x.Count(), x.Even()
	d.Fuse(cut, torn)
	if e := x.Bump(); e != api.ErrDown {
		t.Fatal(n, cut, torn, e)
	}
	is(t, "torn", x, n, even)
	x = again(t, g, d)
	if x.Count() != n && x.Count() != n+1 {
		t.Fatal(n, cut, torn, x.Count())
	}
	if cut == 1 && even && x.Count() != n+1 {
		t.Fatal("the first sector was done", n, torn, x.Count())
	}
	return x
}

// P16.2: a Bump that is torn, of each count, at each byte and with each mask, in either sector. It goes on from there.
func TestBumpTorn(t *testing.T) {
	g := shape(1, 2, 1)
	for n := range 512 {
		d := forged(t, g, n, n)
		for cut := range 2 {
			for bytes := range 17 {
				for mask := range 256 {
					if n%128 != 19 && !slices.Contains(masks(), byte(mask)) { // some are enough
						continue
					}
					if n%7 != 0 && !slices.Contains([]int{0, n % 128 / 8, n%128/8 + 1, 16}, bytes) {
						continue
					}
					goesOn(t, g, d.Copy(), n, cut, flash.Torn{Bytes: bytes, Mask: byte(mask)})
				}
			}
		}
	}
}

// goesOn tears a Bump of an even tally whose count is n, and asks which count that leaves, and that the next Bump lets it be one more.
func goesOn(t *testing.T, g geo.Geo, d *flash.Dev, n, cut int, torn flash.Torn) {
	t.Helper()
	x := tornBump(t, g, d, cut, torn)
	at := n % 128
	bit := torn.Bytes%17 > at/8 || torn.Bytes%17 == at/8 && torn.Mask>>(7-at%8)&1 == 0
	k := n
	if bit || cut == 1 {
		k++
	}
	is(t, "torn", x, k, bit == (cut == 1))
	if k == 512 {
		return
	}
	if e := x.Bump(); e != api.OK {
		t.Fatal(n, cut, torn, e)
	}
	even := bit == (cut == 1) || k%128 != 0
	is(t, "Bump", x, k+1, even)
	is(t, "Bump, opened", opened(t, g, d), k+1, even)
}

// P16.2: a Bump that is torn where the sectors haven't the same count, however far they are apart.
func TestBumpTornUneven(t *testing.T) {
	g := shape(1, 2, 1)
	for _, one := range edges() {
		for _, two := range edges() {
			if max(one, two) == 512 {
				continue
			}
			d := forged(t, g, one, two)
			for cut := range 2 {
				for bytes := range 17 {
					for _, mask := range masks()[:5] {
						tornBump(t, g, d.Copy(), cut, flash.Torn{Bytes: bytes, Mask: mask})
					}
				}
			}
		}
	}
}

// P16.2: a Bump that is torn again and again, of a tally that nobody levels: each time the count is what it was, or one more, from 0 up to 512.
func TestBumpTornAgain(t *testing.T) {
	for seed := range 40 {
		g := geos()[seed%3]
		r := dice{uint64(seed)}
		d := forged(t, g, 0, 0)
		for many := 0; opened(t, g, d).Count() < 512; many++ {
			if many > 10000 {
				t.Fatal("no end")
			}
			tornBump(t, g, d, r.below(2), r.tear())
		}
		if e := opened(t, g, d).Bump(); e != api.ErrFull {
			t.Fatal(e)
		}
	}
}

// P16.2: tallies that live through crashes, one behind the other, of Bump and of Level; now and then they are reset. The count is never less than what was told, and at most one more.
func TestLives(t *testing.T) {
	torn := 0
	for seed := range 60 {
		g := geos()[seed%3]
		r := dice{uint64(seed)}
		d := forged(t, g, r.below(400), r.below(400))
		x := opened(t, g, d)
		for range 400 {
			n := x.Count()
			if r.below(2) == 0 {
				d.Fuse(r.below(2), r.tear())
			}
			e, most := api.OK, n
			switch r.below(5) {
			case 0:
				e = x.Level()
			case 1:
				d.Fuse(-1, flash.Torn{}) // a torn one may leave any count
				if n < 300+r.below(300) {
					continue
				}
				e, n, most = x.Reset(), 0, 0
			default:
				if e, most = x.Bump(), n+1; e == api.OK {
					n++
				}
			}
			d.Fuse(-1, flash.Torn{})
			if e == api.ErrDown {
				torn++
				x = again(t, g, d)
			}
			if k := opened(t, g, d).Count(); e != api.ErrFull && (x.Count() != k || k < n || k > most) {
				t.Fatal(seed, e, x.Count(), k, n, most)
			}
		}
	}
	if torn < 5000 {
		t.Error(torn)
	}
}
