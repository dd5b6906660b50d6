package gf_test

import (
	"math"
	"slices"
	"testing"

	"triptych/gf"
)

// modulus is x^8 + x^4 + x^3 + x^2 + 1.
const modulus = 1<<8 | 1<<4 | 1<<3 | 1<<2 | 1

// product is the product of two bytes as the chapter's words tell it: they are multiplied as polynomials, and then divided by the modulus.
func product(a, b byte) byte {
	p := 0
	for i := range 8 {
		if b>>i&1 == 1 {
			p ^= int(a) << i
		}
	}
	for i := 14; i >= 8; i-- {
		if p>>i&1 == 1 {
			p ^= modulus << (i - 8)
		}
	}
	return byte(p)
}

// inverse is the one byte whose product with a is 1.
func inverse(t *testing.T, a byte) byte {
	t.Helper()
	var l []byte
	for b := range 256 {
		if product(a, byte(b)) == 1 {
			l = append(l, byte(b))
		}
	}
	if len(l) != 1 {
		t.Fatal("the chapter's words give not one inverse of", a, "but", l)
	}
	return l[0]
}

// P4.1: what the chapter's example says, and known values.
func TestKnown(t *testing.T) {
	f := gf.New()
	for _, c := range []struct{ a, b, want byte }{
		{128, 2, 29}, {3, 7, 9}, {1, 1, 1}, {0, 255, 0}, {255, 0, 0}, {0, 0, 0}, {1, 255, 255}, {2, 142, 1}, {16, 16, 29},
	} {
		if p := f.Mul(c.a, c.b); p != c.want {
			t.Error(c, p)
		}
	}
	for n, want := range []byte{1, 2, 4, 8, 16, 32, 64, 128, 29, 58, 116, 232, 205, 135, 19, 38} {
		if p := f.Exp(n); p != want {
			t.Error(n, p)
		}
		if m, ok := f.Log(want); m != n || !ok {
			t.Error(want, m, ok)
		}
	}
}

// P4.1: Add is bit by bit, of as many as there are; of none it is 0.
func TestAdd(t *testing.T) {
	f := gf.New()
	if f.Add() != 0 || f.Add([]byte{}...) != 0 || f.Add(77) != 77 || f.Add(1, 2, 4, 8) != 15 || f.Add(1, 3, 7) != 5 || f.Add(9, 9, 9) != 9 {
		t.Error(f.Add(), f.Add(77), f.Add(1, 2, 4, 8), f.Add(1, 3, 7), f.Add(9, 9, 9))
	}
	for a := range 256 {
		for b := range 256 {
			if s := f.Add(byte(a), byte(b)); int(s) != a^b {
				t.Fatal(a, b, s)
			}
		}
	}
}

// P4.1: Mul is the polynomials' product, Div undoes it, and Div by 0 is 0 and false.
func TestMulDiv(t *testing.T) {
	f := gf.New()
	for a := range 256 {
		for b := range 256 {
			x, y := byte(a), byte(b)
			p := product(x, y)
			if f.Mul(x, y) != p {
				t.Fatal(x, y, f.Mul(x, y), p)
			}
			q, ok := f.Div(p, y)
			if y == 0 {
				q, ok = f.Div(x, y)
				if q != 0 || ok {
					t.Fatal(x, y, q, ok)
				}
			} else if q != x || !ok {
				t.Fatal(p, y, q, ok)
			}
		}
	}
}

// P4.1: Mul takes as many as there are: of none 1, and 0 wherever a 0 stands.
func TestMulMany(t *testing.T) {
	f := gf.New()
	if f.Mul() != 1 || f.Mul([]byte{}...) != 1 || f.Mul(0) != 0 || f.Mul(200) != 200 {
		t.Error(f.Mul(), f.Mul(0), f.Mul(200))
	}
	if f.Mul(0, 3, 7) != 0 || f.Mul(3, 0, 7) != 0 || f.Mul(3, 7, 0) != 0 {
		t.Error(f.Mul(0, 3, 7), f.Mul(3, 0, 7), f.Mul(3, 7, 0))
	}
	want := byte(1)
	var l []byte
	for b := 1; b < 256; b++ {
		l = append(l, byte(b))
		want = product(want, byte(b))
		if p := f.Mul(l...); p != want {
			t.Fatal(b, p, want)
		}
	}
}

// P4.1: it is a field: sums and products hang neither on the order nor on the brackets, and a product with a sum is the sum of the products.
func TestField(t *testing.T) {
	f := gf.New()
	for a := range 256 {
		for b := range 256 {
			for c := 0; c < 256; c += 5 {
				x, y, z := byte(a), byte(b), byte(c)
				if f.Mul(f.Mul(x, y), z) != f.Mul(x, f.Mul(y, z)) || f.Mul(x, y, z) != f.Mul(z, y, x) || f.Add(x, y, z) != f.Add(z, x, y) {
					t.Fatal(x, y, z)
				}
				if f.Mul(x, f.Add(y, z)) != f.Add(f.Mul(x, y), f.Mul(x, z)) {
					t.Fatal(x, y, z)
				}
			}
		}
	}
}

// P4.1: Inv is the one byte that leads to 1, and 0 and false of 0.
func TestInv(t *testing.T) {
	f := gf.New()
	for b := 1; b < 256; b++ {
		if i, ok := f.Inv(byte(b)); i != inverse(t, byte(b)) || !ok {
			t.Error(b, i, ok)
		}
	}
	if i, ok := f.Inv(0); i != 0 || ok {
		t.Error(i, ok)
	}
	if q, ok := f.Div(0, 0); q != 0 || ok {
		t.Error(q, ok)
	}
}

// P4.1: Exp(n) is x multiplied n times with itself, modulo 255 whatever n is; Log is the least n from 0 on that leads there, and 0 and false of 0.
func TestExpLog(t *testing.T) {
	f := gf.New()
	least := map[byte]int{}
	p := byte(1)
	for n := range 1000 {
		if f.Exp(n) != p {
			t.Fatal(n, f.Exp(n), p)
		}
		if f.Mul(f.Exp(-n), p) != 1 {
			t.Fatal(-n, f.Exp(-n))
		}
		if _, ok := least[p]; !ok {
			least[p] = n
		}
		p = product(p, 2)
	}
	if len(least) != 255 {
		t.Error(len(least))
	}
	for b, n := range least {
		if m, ok := f.Log(b); m != n || !ok {
			t.Error(b, m, ok)
		}
	}
	if n, ok := f.Log(0); n != 0 || ok {
		t.Error(n, ok)
	}
	for _, n := range []int{math.MaxInt, math.MaxInt - 1, math.MinInt, math.MinInt + 1, 1 << 40, -1 << 40} {
		if want := f.Exp((n%255 + 255) % 255); f.Exp(n) != want {
			t.Error(n, f.Exp(n), want)
		}
	}
}

// P4.1: Pow(a, n) is a multiplied n times with itself, of n below 0 its inverse, -n times; of n 0 it is 1, and else of 0 it is 0.
func TestPow(t *testing.T) {
	f := gf.New()
	for b := 1; b < 256; b++ {
		a := byte(b)
		i, up, down := inverse(t, a), byte(1), byte(1)
		for n := range 600 {
			if f.Pow(a, n) != up || f.Pow(a, -n) != down {
				t.Fatal(a, n, f.Pow(a, n), f.Pow(a, -n))
			}
			up, down = product(up, a), product(down, i)
		}
		for _, n := range []int{math.MaxInt, math.MinInt, 1 << 40, -1 << 40} {
			if want := f.Pow(a, (n%255+255)%255); f.Pow(a, n) != want {
				t.Fatal(a, n, f.Pow(a, n), want)
			}
		}
	}
	for _, n := range []int{1, 2, 255, -1, -3, -255, math.MaxInt, math.MinInt} {
		if p := f.Pow(0, n); p != 0 {
			t.Error(n, p)
		}
	}
	if f.Pow(0, 0) != 1 {
		t.Error(f.Pow(0, 0))
	}
}

// P4.1: a nil field answers 0 and false, whatever is asked.
func TestNil(t *testing.T) {
	var f *gf.Field
	if f.Add() != 0 || f.Add(1) != 0 || f.Mul() != 0 || f.Mul(3, 7) != 0 || f.Exp(0) != 0 || f.Exp(5) != 0 || f.Exp(-5) != 0 {
		t.Error(f.Add(1), f.Mul(), f.Mul(3, 7), f.Exp(0), f.Exp(5), f.Exp(-5))
	}
	if f.Pow(7, 0) != 0 || f.Pow(0, 0) != 0 || f.Pow(7, 2) != 0 || f.Pow(7, -2) != 0 {
		t.Error(f.Pow(7, 0), f.Pow(0, 0), f.Pow(7, 2), f.Pow(7, -2))
	}
	if q, ok := f.Div(7, 3); q != 0 || ok {
		t.Error(q, ok)
	}
	if i, ok := f.Inv(7); i != 0 || ok {
		t.Error(i, ok)
	}
	if n, ok := f.Log(7); n != 0 || ok {
		t.Error(n, ok)
	}
}

// P4.1: a field that New didn't make is the field as well.
func TestBare(t *testing.T) {
	var bare gf.Field
	f := gf.New()
	for b := range 256 {
		a := byte(b)
		if bare.Mul(a, 7) != f.Mul(a, 7) || bare.Add(a, 7) != f.Add(a, 7) || bare.Exp(b) != f.Exp(b) || bare.Pow(a, 3) != f.Pow(a, 3) {
			t.Fatal(a)
		}
		q, ok := bare.Div(7, a)
		if p, same := f.Div(7, a); p != q || ok != same {
			t.Fatal(a, q, ok)
		}
		n, ok := bare.Log(a)
		if m, same := f.Log(a); m != n || ok != same {
			t.Fatal(a, n, ok)
		}
		i, ok := bare.Inv(a)
		if j, same := f.Inv(a); i != j || ok != same {
			t.Fatal(a, i, ok)
		}
	}
}

// P4.1 with rule 2: what is handed in isn't written into.
func TestNotWritten(t *testing.T) {
	f := gf.New()
	l := []byte{3, 0, 7, 255}
	f.Add(l...)
	f.Mul(l...)
	if !slices.Equal(l, []byte{3, 0, 7, 255}) {
		t.Error(l)
	}
}
