package geo_test

import (
	"fmt"
	"math"
	"slices"
	"testing"

	"triptych/api"
	"triptych/geo"
)

// what is what lies on a sector: a slot's (its name, the stripe, and which one), the log's (half, copy, and which one), or the tally's (the copy).
type what struct {
	name    string
	a, b, c int
}

// names are what the slots are called.
var names = [3]string{"golden", "a", "b"}

// each goes through all geometries that are right.
func each(f func(g geo.Geo)) {
	for data := 1; data <= 8; data++ {
		for parity := 2; parity <= 6; parity++ {
			for stripes := 1; stripes <= 8; stripes++ {
				f(geo.Geo{Data: data, Parity: parity, Stripes: stripes})
			}
		}
	}
}

// laid is a device, laid out by putting one thing behind the other, as the chapter tells them.
func laid(g geo.Geo) []what {
	var l []what
	for _, name := range names {
		for i := 0; i < g.Data+g.Parity; i++ {
			for stripe := 0; stripe < g.Stripes; stripe++ {
				l = append(l, what{name, stripe, i, 0})
			}
		}
	}
	for half := 0; half < 2; half++ {
		for copy := 0; copy < 2; copy++ {
			for i := 0; i < 4; i++ {
				l = append(l, what{"log", half, copy, i})
			}
		}
	}
	return append(l, what{"tally", 0, 0, 0}, what{"tally", 1, 0, 0})
}

// where is on which sector it lies, or -1.
func where(l []what, w what) int { return slices.Index(l, w) }

// far are numbers that are far from all that there is.
func far() []int {
	return []int{math.MinInt, math.MinInt + 1, -1 << 32, -1 << 31, 1 << 31, 1 << 32, 1<<32 + 1, 1 << 60, math.MaxInt - 1, math.MaxInt}
}

// near are numbers from -3 to n+3, and those far from all.
func near(n int) []int {
	l := far()
	for i := -3; i <= n+3; i++ {
		l = append(l, i)
	}
	return l
}

// wrong are geometries that aren't right: each is wrong in one number, or in some, or in all of them.
func wrong() []geo.Geo {
	l := []geo.Geo{{}, {Data: -1, Parity: -1, Stripes: -1}, {Data: 9, Parity: 7, Stripes: 9}, {Data: math.MaxInt, Parity: math.MaxInt, Stripes: math.MaxInt}, {Data: math.MinInt, Parity: math.MinInt, Stripes: math.MinInt}, {Data: -2, Parity: -3, Stripes: 4}, {Data: -2, Parity: 4, Stripes: -3}}
	for _, n := range append(far(), -8, -2, -1, 0) {
		l = append(l, geo.Geo{Data: n, Parity: 2, Stripes: 3}, geo.Geo{Data: 2, Parity: n, Stripes: 3}, geo.Geo{Data: 2, Parity: 2, Stripes: n})
	}
	for _, n := range []int{9, 10, 64} {
		l = append(l, geo.Geo{Data: n, Parity: 2, Stripes: 1}, geo.Geo{Data: 1, Parity: n, Stripes: 1}, geo.Geo{Data: 1, Parity: 2, Stripes: n})
	}
	return append(l, geo.Geo{Data: 4, Parity: 1, Stripes: 2}, geo.Geo{Data: 4, Parity: 7, Stripes: 2})
}

// P9.1: the chapter's example.
func TestExample(t *testing.T) {
	g := geo.Geo{Data: 2, Parity: 2, Stripes: 3}
	if n := g.Slot(); n != 12 {
		t.Error(n)
	}
	if n, e := g.Sector(api.SlotA, 2, 1); n != 17 || e != api.OK {
		t.Error(n, e)
	}
	if slot, stripe, i, ok := g.Of(17); slot != api.SlotA || stripe != 2 || i != 1 || !ok {
		t.Error(slot, stripe, i, ok)
	}
}

// P9.1: a geometry is right just if each of its numbers is within its bounds.
func TestRight(t *testing.T) {
	for _, data := range near(8) {
		for _, parity := range near(6) {
			for _, stripes := range near(8) {
				g := geo.Geo{Data: data, Parity: parity, Stripes: stripes}
				want := 1 <= data && data <= 8 && 2 <= parity && parity <= 6 && 1 <= stripes && stripes <= 8
				if geo.Right(g) != want {
					t.Fatal(g, !want)
				}
			}
		}
	}
}

// P9.1: of some geometries, the numbers written out.
func TestNumbers(t *testing.T) {
	for _, c := range []struct {
		g                     geo.Geo
		wide, slot, all, room int
	}{
		{geo.Geo{Data: 1, Parity: 2, Stripes: 1}, 3, 3, 27, 12},
		{geo.Geo{Data: 2, Parity: 2, Stripes: 3}, 4, 12, 54, 312},
		{geo.Geo{Data: 4, Parity: 2, Stripes: 2}, 6, 12, 54, 432},
		{geo.Geo{Data: 1, Parity: 6, Stripes: 1}, 7, 7, 39, 12},
		{geo.Geo{Data: 1, Parity: 2, Stripes: 8}, 3, 24, 90, 432},
		{geo.Geo{Data: 8, Parity: 2, Stripes: 1}, 10, 10, 48, 432},
		{geo.Geo{Data: 8, Parity: 6, Stripes: 8}, 14, 112, 354, 3792},
	} {
		if c.g.Wide() != c.wide || c.g.Slot() != c.slot || c.g.All() != c.all || c.g.Room() != c.room {
			t.Error(c.g, c.g.Wide(), c.g.Slot(), c.g.All(), c.g.Room())
		}
		if from, to := c.g.Golden(); from != 0 || to != c.slot {
			t.Error(c.g, from, to)
		}
	}
}

// P9.1: of each geometry that is right, the numbers are those of a device that is laid out.
func TestEachNumber(t *testing.T) {
	each(func(g geo.Geo) {
		l := laid(g)
		golden := 0
		for _, w := range l {
			if w.name == "golden" {
				golden++
			}
		}
		if g.All() != len(l) || g.Slot() != golden || g.Wide()*g.Stripes != golden {
			t.Fatal(g, g.All(), g.Slot(), g.Wide())
		}
		if from, to := g.Golden(); from != 0 || to != golden {
			t.Fatal(g, from, to)
		}
		data := 0
		for _, w := range l[:golden] {
			if w.b < g.Data {
				data++
			}
		}
		if g.Room() != data*60-48 {
			t.Fatal(g, g.Room())
		}
	})
}

// P9.1: each sector of each slot lies where the chapter lays it, and Of leads back to it.
func TestSector(t *testing.T) {
	each(func(g geo.Geo) {
		l := laid(g)
		for slot, name := range names {
			for stripe := range g.Stripes {
				for i := range g.Wide() {
					n, e := g.Sector(slot, stripe, i)
					if e != api.OK || n != where(l, what{name, stripe, i, 0}) || n != slot*g.Slot()+i*g.Stripes+stripe {
						t.Fatal(g, slot, stripe, i, n, e)
					}
					if a, b, c, ok := g.Of(n); a != slot || b != stripe || c != i || !ok {
						t.Fatal(g, n, a, b, c, ok)
					}
				}
			}
		}
	})
}

// P9.1: Of tells of each sector what lies there, and Sector leads back to it; of those of the log and the tally, and of those that there aren't, zeros and false.
func TestOf(t *testing.T) {
	each(func(g geo.Geo) {
		l := laid(g)
		for _, n := range near(g.All()) {
			slot, stripe, i, ok := g.Of(n)
			if n < 0 || n >= 3*g.Slot() {
				if slot != 0 || stripe != 0 || i != 0 || ok {
					t.Fatal(g, n, slot, stripe, i, ok)
				}
				continue
			}
			if !ok || l[n] != (what{names[slot], stripe, i, 0}) {
				t.Fatal(g, n, slot, stripe, i, ok)
			}
			if back, e := g.Sector(slot, stripe, i); back != n || e != api.OK {
				t.Fatal(g, n, back, e)
			}
		}
	})
}

// P9.1: a slot, a stripe or a sector that there isn't is ErrRange.
func TestSectorWrong(t *testing.T) {
	for _, g := range []geo.Geo{{Data: 1, Parity: 2, Stripes: 1}, {Data: 2, Parity: 2, Stripes: 3}, {Data: 8, Parity: 6, Stripes: 8}} {
		for _, slot := range near(3) {
			for _, stripe := range near(g.Stripes) {
				for _, i := range near(g.Wide()) {
					n, e := g.Sector(slot, stripe, i)
					if 0 <= slot && slot < 3 && 0 <= stripe && stripe < g.Stripes && 0 <= i && i < g.Wide() {
						if e != api.OK {
							t.Fatal(g, slot, stripe, i, n, e)
						}
					} else if n != 0 || e != api.ErrRange {
						t.Fatal(g, slot, stripe, i, n, e)
					}
				}
			}
		}
	}
}

// P9.1: both copies of both halves, and both of the tally, lie behind the slots; others are ErrRange.
func TestHalfAndTally(t *testing.T) {
	each(func(g geo.Geo) {
		l := laid(g)
		for _, a := range near(2) {
			for _, b := range near(2) {
				want, err := 0, api.ErrRange
				if 0 <= a && a < 2 && 0 <= b && b < 2 {
					want, err = where(l, what{"log", a, b, 0}), api.OK
				}
				if n, e := g.Half(a, b); n != want || e != err {
					t.Fatal(g, a, b, n, e)
				}
			}
			want, err := 0, api.ErrRange
			if 0 <= a && a < 2 {
				want, err = where(l, what{"tally", a, 0, 0}), api.OK
			}
			if n, e := g.Tally(a); n != want || e != err {
				t.Fatal(g, a, n, e)
			}
		}
	})
}

// P9.1: of one geometry, where the halves and the tally lie, written out.
func TestHalfAndTallyWritten(t *testing.T) {
	g := geo.Geo{Data: 2, Parity: 2, Stripes: 3}
	for _, c := range [][3]int{{0, 0, 36}, {0, 1, 40}, {1, 0, 44}, {1, 1, 48}} {
		if n, e := g.Half(c[0], c[1]); n != c[2] || e != api.OK {
			t.Error(c, n, e)
		}
	}
	for copy := range 2 {
		if n, e := g.Tally(copy); n != 52+copy || e != api.OK {
			t.Error(copy, n, e)
		}
	}
}

// P9.1: no two things lie on one sector, and none lies bare.
func TestApart(t *testing.T) {
	each(func(g geo.Geo) {
		taken := make([]int, g.All())
		take := func(n int, e api.Errno) {
			if e != api.OK || n < 0 || n >= len(taken) {
				t.Fatal(g, n, e)
			}
			taken[n]++
		}
		for slot := range api.Slots {
			for stripe := range g.Stripes {
				for i := range g.Wide() {
					take(g.Sector(slot, stripe, i))
				}
			}
		}
		for a := range 2 {
			for b := range 2 {
				n, e := g.Half(a, b)
				for i := range 4 {
					take(n+i, e)
				}
			}
			take(g.Tally(a))
		}
		for n, times := range taken {
			if times != 1 {
				t.Fatal(g, n, times)
			}
		}
	})
}

// P9.1: the lines of a map, written out.
func TestMapWritten(t *testing.T) {
	want := []string{
		"golden 0d0", "golden 1d0", "golden 0p0", "golden 1p0", "golden 0p1", "golden 1p1",
		"a 0d0", "a 1d0", "a 0p0", "a 1p0", "a 0p1", "a 1p1",
		"b 0d0", "b 1d0", "b 0p0", "b 1p0", "b 0p1", "b 1p1",
		"log 0.0.0", "log 0.0.1", "log 0.0.2", "log 0.0.3", "log 0.1.0", "log 0.1.1", "log 0.1.2", "log 0.1.3",
		"log 1.0.0", "log 1.0.1", "log 1.0.2", "log 1.0.3", "log 1.1.0", "log 1.1.1", "log 1.1.2", "log 1.1.3",
		"tally 0", "tally 1",
	}
	g := geo.Geo{Data: 1, Parity: 2, Stripes: 2}
	if got := g.Map(); !slices.Equal(got, want) {
		t.Errorf("%q", got)
	}
}

// line is what a map says of it.
func line(g geo.Geo, w what) string {
	switch {
	case w.name == "log":
		return fmt.Sprintf("log %d.%d.%d", w.a, w.b, w.c)
	case w.name == "tally":
		return fmt.Sprintf("tally %d", w.a)
	case w.b < g.Data:
		return fmt.Sprintf("%s %dd%d", w.name, w.a, w.b)
	}
	return fmt.Sprintf("%s %dp%d", w.name, w.a, w.b-g.Data)
}

// P9.1: of each geometry that is right, a map has a line for each sector, and no line twice.
func TestMap(t *testing.T) {
	each(func(g geo.Geo) {
		l, got := laid(g), g.Map()
		if len(got) != len(l) || len(got) != g.All() {
			t.Fatal(g, len(got))
		}
		seen := map[string]bool{}
		for n, w := range l {
			if got[n] != line(g, w) || seen[got[n]] {
				t.Fatalf("%v %d %q", g, n, got[n])
			}
			seen[got[n]] = true
		}
	})
}

// P9.1, rule 2: a map is new memory.
func TestMapOwnMemory(t *testing.T) {
	g := geo.Geo{Data: 2, Parity: 2, Stripes: 1}
	l := g.Map()
	want := slices.Clone(l)
	for i := range l {
		l[i] = "other"
	}
	if got := g.Map(); !slices.Equal(got, want) {
		t.Errorf("%q", got)
	}
}

// P9.1: of a geometry that isn't right all numbers are 0, ErrArg, false, whatever is asked.
func TestWrongGeometry(t *testing.T) {
	for _, g := range wrong() {
		from, to := g.Golden()
		if geo.Right(g) || g.Slot() != 0 || g.All() != 0 || g.Room() != 0 || g.Wide() != 0 || from != 0 || to != 0 || len(g.Map()) != 0 {
			t.Fatal(g, g.Slot(), g.All(), g.Room(), g.Wide(), from, to, g.Map())
		}
		for _, n := range near(4) {
			if slot, stripe, i, ok := g.Of(n); slot != 0 || stripe != 0 || i != 0 || ok {
				t.Fatal(g, n, slot, stripe, i, ok)
			}
			if at, e := g.Tally(n); at != 0 || e != api.ErrArg {
				t.Fatal(g, n, at, e)
			}
			for _, m := range near(4) {
				if at, e := g.Half(n, m); at != 0 || e != api.ErrArg {
					t.Fatal(g, n, m, at, e)
				}
				if at, e := g.Sector(n, m, 0); at != 0 || e != api.ErrArg {
					t.Fatal(g, n, m, at, e)
				}
				if at, e := g.Sector(0, n, m); at != 0 || e != api.ErrArg {
					t.Fatal(g, n, m, at, e)
				}
			}
		}
	}
}
