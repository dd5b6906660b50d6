package poly_test

import (
	"bytes"
	"math"
	"testing"

	"triptych/gf"
	"triptych/poly"
)

// modulus is x^8 + x^4 + x^3 + x^2 + 1.
const modulus = 1<<8 | 1<<4 | 1<<3 | 1<<2 | 1

// product is the product of two bytes, worked out bit by bit.
func product(a, b byte) byte {
	p := 0
	for i := range 8 {
		if b>>i&1 == 1 {
			p ^= int(a) << i
		}
	}
	for i := 14; i >= 8; i-- {
		if p>>i&1 == 1 {
			p ^= modulus << (i - 8)
		}
	}
	return byte(p)
}

// factor is what stands in a before x^n.
func factor(a []byte, n int) byte {
	if n < 0 || n >= len(a) {
		return 0
	}
	return a[len(a)-1-n]
}

// told is the polynomial whose factors before x^top, .. x^0 are what at answers.
func told(top int, at func(n int) byte) []byte {
	var p []byte
	for n := top; n >= 0; n-- {
		if c := at(n); c != 0 || len(p) > 0 {
			p = append(p, c)
		}
	}
	return p
}

// sum is the sum of two, power by power.
func sum(a, b []byte) []byte {
	return told(max(len(a), len(b)), func(n int) byte { return factor(a, n) ^ factor(b, n) })
}

// multiple is the product of two, power by power.
func multiple(a, b []byte) []byte {
	return told(len(a)+len(b), func(n int) byte {
		s := byte(0)
		for i := range n + 1 {
			s ^= product(factor(a, i), factor(b, n-i))
		}
		return s
	})
}

// value is the sum of each factor with its power of x.
func value(a []byte, x byte) byte {
	s := byte(0)
	for n := range len(a) {
		p := factor(a, n)
		for range n {
			p = product(p, x)
		}
		s ^= p
	}
	return s
}

// ahead is a with n noughts ahead.
func ahead(n int, a []byte) []byte {
	return append(make([]byte, n), a...)
}

// samples is a rising lot of polynomials, with noughts within and ahead: always the same ones.
func samples(n, longest int) [][]byte {
	l := [][]byte{nil, {}, {0}, {0, 0, 0}, {1}, {255}, {0, 7}, {1, 0}, {1, 0, 0, 0}, {0, 1, 0}, {1, 1}}
	s := uint32(1)
	next := func() int {
		s = s*1664525 + 1013904223
		return int(s >> 16)
	}
	for len(l) < n {
		p := make([]byte, next()%(longest+1))
		for i := range p {
			if next()%4 != 0 {
				p[i] = byte(next())
			}
		}
		l = append(l, p)
	}
	return l
}

// check tells when p isn't want, byte by byte: so noughts ahead are told too.
func check(t *testing.T, p, want []byte, what ...any) {
	t.Helper()
	if !bytes.Equal(p, want) {
		t.Fatal(p, want, what)
	}
}

// P5.1: Trim takes the noughts ahead and no others; Degree is the highest power that isn't 0, and -1 of 0.
func TestTrimDegree(t *testing.T) {
	for _, c := range []struct {
		a, want []byte
		degree  int
	}{
		{nil, nil, -1}, {[]byte{}, nil, -1}, {[]byte{0}, nil, -1}, {make([]byte, 500), nil, -1},
		{[]byte{7}, []byte{7}, 0}, {[]byte{0, 0, 7}, []byte{7}, 0}, {[]byte{1, 0}, []byte{1, 0}, 1},
		{[]byte{0, 1, 0, 2, 0, 0}, []byte{1, 0, 2, 0, 0}, 4}, {[]byte{255, 0, 0, 1}, []byte{255, 0, 0, 1}, 3},
		{ahead(300, []byte{9, 8}), []byte{9, 8}, 1},
	} {
		check(t, poly.Trim(c.a), c.want, c.a)
		if n := poly.Degree(c.a); n != c.degree {
			t.Error(c.a, n)
		}
	}
}

// P5.1: Add is power by power, of as many as there are; of none, and of what undoes itself, it is 0.
func TestAdd(t *testing.T) {
	f := gf.New()
	check(t, poly.Add(f), nil)
	check(t, poly.Add(f, nil), nil)
	check(t, poly.Add(f, []byte{0, 5}), []byte{5})
	check(t, poly.Add(f, []byte{1, 0, 3}, []byte{0, 1, 0, 1}, []byte{2}), nil)
	check(t, poly.Add(f, []byte{4, 4, 1}, []byte{4, 4, 2}), []byte{3})
	check(t, poly.Add(f, []byte{9}, []byte{1, 2, 3}, nil, []byte{0, 0, 0, 0, 1, 0}), []byte{1, 3, 10})
	l := samples(60, 9)
	for _, a := range l {
		for _, b := range l {
			check(t, poly.Add(f, a, b), sum(a, b), a, b)
			check(t, poly.Add(f, a, b, a), poly.Trim(b), a, b)
		}
	}
}

// P5.1: Mul is the sum of each factor with each, of as many as there are; of none it is 1, and 0 wherever a 0 stands.
func TestMul(t *testing.T) {
	f := gf.New()
	check(t, poly.Mul(f), []byte{1})
	check(t, poly.Mul(f, [][]byte{}...), []byte{1})
	check(t, poly.Mul(f, []byte{0, 5, 0}), []byte{5, 0})
	check(t, poly.Mul(f, nil), nil)
	check(t, poly.Mul(f, []byte{1, 1}, []byte{0}, []byte{1, 2}), nil)
	check(t, poly.Mul(f, []byte{128, 1}, []byte{2}), []byte{29, 2})
	check(t, poly.Mul(f, []byte{0, 1, 1}, []byte{1, 2}, []byte{0, 0, 1, 4}), []byte{1, 7, 14, 8})
	l := samples(60, 9)
	for i, a := range l {
		for _, b := range l {
			check(t, poly.Mul(f, a, b), multiple(a, b), a, b)
			c := l[len(l)-1-i]
			check(t, poly.Mul(f, a, b, c), multiple(multiple(a, b), c), a, b, c)
		}
	}
}

// P5.1: of DivMod quotient times divisor, and the rest, are what was divided; the rest's degree is below the divisor's.
func TestDivMod(t *testing.T) {
	f := gf.New()
	for _, c := range []struct{ a, b, q, r []byte }{
		{[]byte{1, 3, 2}, []byte{1, 2}, []byte{1, 1}, nil},
		{[]byte{1, 3, 2, 5}, []byte{0, 0, 1, 2}, []byte{1, 1, 0}, []byte{5}},
		{[]byte{0, 1, 2}, []byte{1, 0, 0}, nil, []byte{1, 2}},
		{[]byte{29, 2}, []byte{128, 1}, []byte{2}, nil},
		{[]byte{29}, []byte{2}, []byte{128}, nil},
		{nil, []byte{3, 1}, nil, nil},
		{[]byte{0, 0, 0}, []byte{3}, nil, nil},
		{[]byte{1, 0, 0, 0, 7}, []byte{1, 0}, []byte{1, 0, 0, 0}, []byte{7}},
	} {
		q, r, ok := poly.DivMod(f, c.a, c.b)
		check(t, q, c.q, c.a, c.b)
		check(t, r, c.r, c.a, c.b)
		if !ok {
			t.Error(c.a, c.b)
		}
	}
	l := samples(90, 12)
	for _, a := range l {
		for _, b := range l {
			q, r, ok := poly.DivMod(f, a, b)
			if poly.Degree(b) < 0 {
				if len(q) != 0 || len(r) != 0 || ok {
					t.Fatal(a, b, q, r, ok)
				}
				continue
			}
			if !ok || poly.Degree(r) >= poly.Degree(b) {
				t.Fatal(a, b, q, r, ok)
			}
			check(t, sum(multiple(q, b), r), poly.Trim(a), a, b)
			check(t, q, poly.Trim(q), a, b)
			check(t, r, poly.Trim(r), a, b)
		}
	}
}

// P5.1: Eval is the sum of each factor with its power of the place.
func TestEval(t *testing.T) {
	f := gf.New()
	for _, c := range []struct {
		a       []byte
		x, want byte
	}{
		{nil, 5, 0}, {[]byte{0, 0}, 5, 0}, {[]byte{7}, 0, 7}, {[]byte{7}, 9, 7}, {[]byte{3, 7}, 0, 7}, {[]byte{128, 0}, 2, 29},
		{[]byte{1, 3, 2}, 1, 0}, {[]byte{1, 3, 2}, 2, 0}, {[]byte{0, 1, 3, 2}, 0, 2}, {[]byte{9, 4, 2, 1}, 1, 14},
	} {
		if v := poly.Eval(f, c.a, c.x); v != c.want {
			t.Error(c, v)
		}
	}
	for _, a := range samples(40, 14) {
		for x := range 256 {
			if v := poly.Eval(f, a, byte(x)); v != value(a, byte(x)) {
				t.Fatal(a, x, v)
			}
		}
	}
}

// P5.1: Derive tells of c x^n that c, n times added, before x^(n-1).
func TestDerive(t *testing.T) {
	f := gf.New()
	for _, c := range []struct{ a, want []byte }{
		{nil, nil}, {[]byte{0, 0}, nil}, {[]byte{7}, nil}, {[]byte{0, 5, 1}, []byte{5}}, {[]byte{5, 4, 3, 2}, []byte{5, 0, 3}},
		{[]byte{1, 0, 0}, nil}, {[]byte{9, 0, 4, 1}, []byte{9, 0, 4}}, {[]byte{9, 8, 4, 1, 7}, []byte{8, 0, 1}},
	} {
		check(t, poly.Derive(f, c.a), c.want, c.a)
	}
	for _, a := range samples(80, 300) {
		check(t, poly.Derive(f, a), told(len(a), func(n int) byte {
			s := byte(0)
			for range n + 1 {
				s ^= factor(a, n+1)
			}
			return s
		}), a)
	}
}

// P5.1: Roots is the product of all x - r: so it is 0 at these places, and at no others, and its highest factor is 1; of none it is 1.
func TestRoots(t *testing.T) {
	f := gf.New()
	check(t, poly.Roots(f), []byte{1})
	check(t, poly.Roots(f, []byte{}...), []byte{1})
	check(t, poly.Roots(f, 1, 2), []byte{1, 3, 2})
	check(t, poly.Roots(f, 1, 2, 4), []byte{1, 7, 14, 8})
	check(t, poly.Roots(f, 0), []byte{1, 0})
	check(t, poly.Roots(f, 0, 0, 0), []byte{1, 0, 0, 0})
	check(t, poly.Roots(f, 16, 16), []byte{1, 0, 29})
	for _, l := range samples(40, 20) {
		want, in := []byte{1}, map[byte]bool{}
		for _, r := range l {
			want, in[r] = multiple(want, []byte{1, r}), true
		}
		p := poly.Roots(f, l...)
		check(t, p, want, l)
		for x := range 256 {
			if (value(p, byte(x)) == 0) != in[byte(x)] {
				t.Fatal(l, x)
			}
		}
	}
	var all []byte
	for x := range 256 {
		all = append(all, byte(x))
	}
	// That of all bytes is x^256 - x.
	want := make([]byte, 257)
	want[0], want[255] = 1, 1
	check(t, poly.Roots(f, all...), want)
}

// P5.1: Shift is times x^n; n less than 0 counts as 0, and more than 1000 as 1000.
func TestShift(t *testing.T) {
	for _, n := range []int{math.MinInt, -1000, -1, 0, 1, 2, 999, 1000, 1001, 1 << 40, math.MaxInt} {
		count := n
		if n < 0 {
			count = 0
		}
		if n > 1000 {
			count = 1000
		}
		check(t, poly.Shift([]byte{0, 3, 0, 2}, n), append([]byte{3, 0, 2}, make([]byte, count)...), n)
		check(t, poly.Shift([]byte{1}, n), append([]byte{1}, make([]byte, count)...), n)
		for _, nought := range [][]byte{nil, {}, {0}, {0, 0, 0}} {
			check(t, poly.Shift(nought, n), nil, n)
		}
	}
}

// P5.1: Gcd of known ones: of none and of noughts alone it is 0, and else its highest factor is 1.
func TestGcdKnown(t *testing.T) {
	f := gf.New()
	for _, c := range []struct {
		l    [][]byte
		want []byte
	}{
		{nil, nil}, {[][]byte{nil}, nil}, {[][]byte{{0}, {}, {0, 0}}, nil},
		{[][]byte{{7}}, []byte{1}}, {[][]byte{{0, 2, 6, 4}}, []byte{1, 3, 2}}, {[][]byte{nil, {2, 6, 4}, {0}}, []byte{1, 3, 2}},
		{[][]byte{{1, 3, 2}, {0, 1, 2}}, []byte{1, 2}}, {[][]byte{{1, 2}, {1, 3, 2}}, []byte{1, 2}}, {[][]byte{{1, 3}, {1, 2}}, []byte{1}},
		{[][]byte{{5, 0, 0}, {0, 9, 0}}, []byte{1, 0}}, {[][]byte{{1, 3, 2}, {1, 3, 2}, {200}}, []byte{1}},
	} {
		check(t, poly.Gcd(f, c.l...), c.want, c.l)
	}
}

// P5.1: Gcd of products of x - r is that of the roots that all have, each as often as the one that has it least.
func TestGcdRoots(t *testing.T) {
	f := gf.New()
	l := samples(36, 12)
	for i, a := range l {
		for j, b := range l {
			c := append(append([]byte{}, a...), b[:len(b)/2]...)
			count := map[byte]int{}
			for x := range 256 {
				at := []byte{byte(x)}
				count[byte(x)] = min(bytes.Count(a, at), bytes.Count(b, at), bytes.Count(c, at))
			}
			want := []byte{1}
			for x := range 256 {
				for range count[byte(x)] {
					want = multiple(want, []byte{1, byte(x)})
				}
			}
			p, q, r := product(byte(i), 3)|1, product(byte(j), 5)|1, byte(i+j)|1
			got := poly.Gcd(f, multiple([]byte{p}, poly.Roots(f, a...)), ahead(2, multiple([]byte{q}, poly.Roots(f, b...))), nil, multiple([]byte{r}, poly.Roots(f, c...)))
			check(t, got, want, a, b, c)
		}
	}
}

// P5.1: Gcd divides them all, and what divides them all divides it: nothing is left in common of what they are of it.
func TestGcdDivides(t *testing.T) {
	f := gf.New()
	l := samples(60, 8)
	for i, a := range l {
		for _, b := range l {
			c := l[len(l)-1-i]
			a, b := multiple(a, c), multiple(b, c)
			g := poly.Gcd(f, a, b)
			if len(a)+len(b) == 0 {
				check(t, g, nil, a, b)
				continue
			}
			if len(g) == 0 || g[0] != 1 {
				t.Fatal(a, b, g)
			}
			p, left, _ := poly.DivMod(f, a, g)
			check(t, left, nil, a, b, g)
			q, left, _ := poly.DivMod(f, b, g)
			check(t, left, nil, a, b, g)
			check(t, poly.Gcd(f, p, q), []byte{1}, a, b, g)
			check(t, poly.Gcd(f, b, a), g, a, b)
			_, left, _ = poly.DivMod(f, g, c)
			check(t, left, nil, a, b, g)
		}
	}
}

// P5.1: Fit has the values at the places, and is of a lower degree than there are places: so of the least.
func TestFit(t *testing.T) {
	f := gf.New()
	var all []byte
	for x := range 256 {
		// An odd factor goes through all bytes, and not in their order.
		all = append(all, byte(x*77+5))
	}
	for i, a := range samples(50, 40) {
		a = poly.Trim(a)
		for _, n := range []int{len(a), len(a) + 1, len(a) + 7, 256} {
			x := all[i : i+min(n, 256-i)]
			y := make([]byte, len(x))
			for k, at := range x {
				y[k] = value(a, at)
			}
			p, ok := poly.Fit(f, x, y)
			if !ok {
				t.Fatal(a, x, y)
			}
			if len(x) >= len(a) {
				check(t, p, a, x, y)
			}
		}
	}
	for i, y := range samples(60, 200) {
		x := all[256-len(y)-i%8 : 256-i%8]
		p, ok := poly.Fit(f, x, y)
		if !ok || len(p) > len(x) || len(p) > 0 && p[0] == 0 {
			t.Fatal(x, y, p, ok)
		}
		for k, at := range x {
			if value(p, at) != y[k] {
				t.Fatal(x, y, p, at)
			}
		}
	}
}

// P5.1: Fit of none is 0 and true; 0 and false, if there are not as many of both, or a place stands there twice, whatever its values.
func TestFitEdges(t *testing.T) {
	f := gf.New()
	for _, c := range []struct {
		x, y, want []byte
		ok         bool
	}{
		{nil, nil, nil, true}, {[]byte{}, nil, nil, true}, {[]byte{0}, []byte{0}, nil, true}, {[]byte{0}, []byte{7}, []byte{7}, true},
		{[]byte{9, 4, 7}, []byte{0, 0, 0}, nil, true}, {[]byte{9, 4, 7}, []byte{5, 5, 5}, []byte{5}, true}, {[]byte{0, 3, 6}, []byte{0, 3, 6}, []byte{1, 0}, true},
		{[]byte{1}, nil, nil, false}, {nil, []byte{1}, nil, false}, {[]byte{1, 2}, []byte{1}, nil, false}, {[]byte{1}, []byte{1, 2}, nil, false},
		{[]byte{3, 3}, []byte{1, 2}, nil, false}, {[]byte{3, 3}, []byte{1, 1}, nil, false}, {[]byte{0, 1, 2, 0}, []byte{4, 3, 2, 1}, nil, false},
		{[]byte{0, 0}, []byte{0, 0}, nil, false}, {[]byte{5, 6, 7, 7}, []byte{1, 2, 3, 3}, nil, false},
	} {
		p, ok := poly.Fit(f, c.x, c.y)
		check(t, p, c.want, c.x, c.y)
		if ok != c.ok {
			t.Error(c.x, c.y, ok)
		}
	}
	long := make([]byte, 257)
	for i := range long {
		long[i] = byte(i)
	}
	if p, ok := poly.Fit(f, long, long); len(p) != 0 || ok {
		t.Error(p, ok)
	}
	p, ok := poly.Fit(f, long[:256], long[:256])
	check(t, p, []byte{1, 0})
	if !ok {
		t.Error(ok)
	}
}

// P5.1: a nil field answers 0 and false, whatever is asked.
func TestNil(t *testing.T) {
	a, b := []byte{1, 3, 2}, []byte{1, 2}
	for i, p := range [][]byte{
		poly.Add(nil), poly.Add(nil, a), poly.Add(nil, a, b), poly.Mul(nil), poly.Mul(nil, a), poly.Mul(nil, a, b), poly.Derive(nil, a),
		poly.Roots(nil), poly.Roots(nil, 1, 2), poly.Gcd(nil), poly.Gcd(nil, a), poly.Gcd(nil, a, b), poly.Gcd(nil, a, b, nil),
	} {
		check(t, p, nil, i)
	}
	for _, d := range [][]byte{a, b, {5}, nil, {0}} {
		if q, r, ok := poly.DivMod(nil, a, d); len(q) != 0 || len(r) != 0 || ok {
			t.Error(d, q, r, ok)
		}
		if q, r, ok := poly.DivMod(nil, nil, d); len(q) != 0 || len(r) != 0 || ok {
			t.Error(d, q, r, ok)
		}
	}
	if v := poly.Eval(nil, a, 7); v != 0 {
		t.Error(v)
	}
	if p, ok := poly.Fit(nil, a, a); len(p) != 0 || ok {
		t.Error(p, ok)
	}
	if p, ok := poly.Fit(nil, nil, nil); len(p) != 0 || ok {
		t.Error(p, ok)
	}
}

// answers is what the functions answer that are handed a and b.
func answers(f *gf.Field, a, b []byte) [][]byte {
	q, r, _ := poly.DivMod(f, a, b)
	s, u, _ := poly.DivMod(f, b, a)
	fit, _ := poly.Fit(f, a, b)
	return [][]byte{
		poly.Trim(a), poly.Shift(a, 0), poly.Shift(a, 5), poly.Derive(f, a), poly.Roots(f, a...), fit, q, r, s, u,
		poly.Add(f, a), poly.Add(f, a, b), poly.Add(f, a, nil), poly.Add(f, nil, b), poly.Mul(f, a), poly.Mul(f, a, b), poly.Mul(f, []byte{1}, a),
		poly.Gcd(f, a), poly.Gcd(f, a, nil), poly.Gcd(f, nil, b), poly.Gcd(f, a, b), poly.Gcd(f, b, a),
	}
}

// P5.1 with rule 2: no argument is written into, and what is answered shares no memory with one, nor with another answer.
func TestOwnMemory(t *testing.T) {
	f := gf.New()
	for _, c := range [][2][]byte{
		{{1, 3, 2}, {1, 2, 9}}, {{0, 0, 1, 3, 2, 7}, {0, 1, 2, 9, 1, 1}}, {{1}, {1}}, {{1, 2}, {3, 4, 5}}, {{9, 8, 7, 6, 5}, {0, 4}},
	} {
		a, b := bytes.Clone(c[0]), bytes.Clone(c[1])
		l, want := answers(f, a, b), answers(f, c[0], c[1])
		poly.Eval(f, a, 3)
		poly.Degree(a)
		check(t, a, c[0])
		check(t, b, c[1])
		for i := range a {
			a[i] ^= 85
		}
		for i := range b {
			b[i] ^= 170
		}
		changed, other := bytes.Clone(a), bytes.Clone(b)
		for i, p := range l {
			check(t, p, want[i], i)
			// Whoever has an answer may write into it, and behind it.
			p = p[:cap(p)]
			for k := range p {
				p[k] ^= 51
			}
		}
		check(t, a, changed)
		check(t, b, other)
	}
}
