package rs_test

import (
	"bytes"
	"math"
	"testing"

	"triptych/api"
	"triptych/gf"
	"triptych/rs"
)

// modulus is x^8 + x^4 + x^3 + x^2 + 1.
const modulus = 1<<8 | 1<<4 | 1<<3 | 1<<2 | 1

// product is the product of two bytes, worked out bit by bit.
func product(a, b byte) byte {
	p := 0
	for i := range 8 {
		if b>>i&1 == 1 {
			p ^= int(a) << i
		}
	}
	for i := 14; i >= 8; i-- {
		if p>>i&1 == 1 {
			p ^= modulus << (i - 8)
		}
	}
	return byte(p)
}

// products are all of them.
var products = func() (l [256][256]byte) {
	for a := range l {
		for b := range l[a] {
			l[a][b] = product(byte(a), byte(b))
		}
	}
	return l
}()

// power is x multiplied n times with itself.
func power(n int) byte {
	p := byte(1)
	for range n {
		p = product(p, 2)
	}
	return p
}

// powers are the places at which words may have to be 0.
var powers = func() (l [64]byte) {
	for i := range l {
		l[i] = power(i)
	}
	return l
}()

// values are what a word is at the first n powers of x, each byte multiplied with its power of the place: the last byte's is 1.
func values(word []byte, n int) []byte {
	l := make([]byte, n)
	for i := range l {
		p := byte(1)
		for k := len(word) - 1; k >= 0; k-- {
			l[i] ^= products[word[k]][p]
			p = products[p][powers[i]]
		}
	}
	return l
}

// nought tells whether all bytes are 0.
func nought(l []byte) bool {
	return len(bytes.Trim(l, "\x00")) == 0
}

// chance answers numbers that look like chance, and are always the same ones.
func chance() func(below int) int {
	s := uint32(1)
	return func(below int) int {
		s = s*1664525 + 1013904223
		return int(s>>8) % below
	}
}

// some is n bytes, with noughts among them.
func some(next func(int) int, n int) []byte {
	l := make([]byte, n)
	for i := range l {
		if next(4) != 0 {
			l[i] = byte(next(256))
		}
	}
	return l
}

// code is a code that there is.
func code(t *testing.T, n, k int) *rs.Code {
	t.Helper()
	c, e := rs.New(gf.New(), n, k)
	if c == nil || e != api.OK {
		t.Fatal(n, k, c, e)
	}
	return c
}

// encoded is what data are encoded to; it is told when that isn't they and parity behind them, as Parity answers it.
func encoded(t *testing.T, c *rs.Code, data []byte) []byte {
	t.Helper()
	n, k := c.Size()
	w, e := c.Encode(data)
	if e != api.OK || len(w) != n || !bytes.Equal(w[:k], data) {
		t.Fatal(n, k, data, w, e)
	}
	p, e := c.Parity(data)
	if e != api.OK || !bytes.Equal(p, w[k:]) {
		t.Fatal(n, k, data, w, p, e)
	}
	return w
}

// sizes are codes of each kind: all small ones, those that the store can have, and the edges of what there is.
func sizes() [][2]int {
	l := [][2]int{{65, 1}, {64, 1}, {65, 2}, {66, 2}, {128, 64}, {200, 150}, {254, 190}, {255, 191}, {255, 192}, {255, 253}, {255, 254}, {254, 253}}
	for n := 2; n <= 14; n++ {
		for k := 1; k < n; k++ {
			l = append(l, [2]int{n, k})
		}
	}
	return l
}

// P6.1: New makes just the codes that there are, of each n and k, and tells their sizes.
func TestNew(t *testing.T) {
	f := gf.New()
	for n := -3; n <= 260; n++ {
		for k := -3; k <= 260; k++ {
			c, e := rs.New(f, n, k)
			if k < 1 || n <= k || n > 255 || n-k > 64 {
				if c != nil || e != api.ErrArg {
					t.Fatal(n, k, c, e)
				}
				continue
			}
			if c == nil || e != api.OK {
				t.Fatal(n, k, c, e)
			}
			if m, l := c.Size(); m != n || l != k {
				t.Fatal(n, k, m, l)
			}
			if c.Over() != f {
				t.Fatal(n, k, c.Over())
			}
		}
	}
}

// P6.1: nil and ErrArg of no field, and of numbers at the ends of int, whose difference isn't one.
func TestNewWrong(t *testing.T) {
	f := gf.New()
	far := []int{math.MinInt, math.MinInt + 1, math.MinInt + 4, -1, 0, 1, 4, 255, math.MaxInt - 1, math.MaxInt}
	for _, n := range far {
		for _, k := range far {
			if n == 4 && k == 1 {
				continue
			}
			if c, e := rs.New(f, n, k); c != nil || e != api.ErrArg {
				t.Error(n, k, c, e)
			}
		}
	}
	for _, s := range [][2]int{{4, 2}, {255, 191}, {2, 1}, {4, 4}, {0, 0}, {-1, 7}} {
		if c, e := rs.New(nil, s[0], s[1]); c != nil || e != api.ErrArg {
			t.Error(s, c, e)
		}
	}
}

// P6.1: what the chapter's example says, and words that are worked out by hand.
func TestKnown(t *testing.T) {
	for _, c := range []struct {
		n, k       int
		data, want []byte
	}{
		{4, 2, []byte{0, 0}, []byte{0, 0, 0, 0}},
		// One byte of parity: their sum is 0. Two: they are multiples of x^2 + 3x + 2.
		{2, 1, []byte{7}, []byte{7, 7}},
		{4, 3, []byte{1, 2, 4}, []byte{1, 2, 4, 7}},
		{3, 1, []byte{1}, []byte{1, 3, 2}},
		{3, 1, []byte{128}, []byte{128, 157, 29}},
		{4, 2, []byte{1, 3}, []byte{1, 3, 2, 0}},
		{4, 2, []byte{0, 1}, []byte{0, 1, 3, 2}},
		{4, 2, []byte{1, 0}, []byte{1, 0, 7, 6}},
		{4, 2, []byte{1, 2}, []byte{1, 2, 1, 2}},
		// Three: of (x^2 + 3x + 2)(x + 4).
		{4, 1, []byte{1}, []byte{1, 7, 14, 8}},
		{5, 2, []byte{1, 7}, []byte{1, 7, 14, 8, 0}},
		{6, 3, []byte{0, 0, 1}, []byte{0, 0, 1, 7, 14, 8}},
	} {
		r := code(t, c.n, c.k)
		if w := encoded(t, r, c.data); !bytes.Equal(w, c.want) {
			t.Error(c, w)
		}
		if !r.Right(c.want) {
			t.Error(c)
		}
	}
}

// P6.1: what is encoded begins with the data, and is 0 at Exp(0), Exp(1), .. Exp(n - k - 1); Syndromes and Right tell so.
func TestEncode(t *testing.T) {
	next := chance()
	for _, s := range sizes() {
		n, k := s[0], s[1]
		c := code(t, n, k)
		data := [][]byte{make([]byte, k), bytes.Repeat([]byte{255}, k)}
		for i := range k {
			one := make([]byte, k)
			one[i] = byte(1 + next(255))
			data = append(data, one)
		}
		for range 20 {
			data = append(data, some(next, k))
		}
		for _, d := range data {
			w := encoded(t, c, d)
			if !nought(values(w, n-k)) || !c.Right(w) {
				t.Fatal(s, d, w)
			}
			if l, e := c.Syndromes(w); e != api.OK || len(l) != n-k || !nought(l) {
				t.Fatal(s, w, l, e)
			}
		}
	}
}

// P6.1: the parity of each pair of bytes is 0 where it must be, and there is no other: each other pair behind them is told as not right.
func TestParityIsTheOne(t *testing.T) {
	c := code(t, 3, 1)
	for d := range 256 {
		w := encoded(t, c, []byte{byte(d)})
		for p := range 256 * 256 {
			v := []byte{byte(d), byte(p >> 8), byte(p)}
			if c.Right(v) != bytes.Equal(v, w) {
				t.Fatal(v, w)
			}
		}
	}
	c = code(t, 4, 2)
	for d := range 256 * 256 {
		w := encoded(t, c, []byte{byte(d >> 8), byte(d)})
		if !nought(values(w, 2)) {
			t.Fatal(w)
		}
	}
}

// P6.1: Syndromes are a word's values at Exp(0) and on, of any word; Right tells whether all of them are 0.
func TestSyndromes(t *testing.T) {
	next := chance()
	for _, s := range sizes() {
		n, k := s[0], s[1]
		c := code(t, n, k)
		for i := range 20 + n {
			w := some(next, n)
			if i < n {
				w = make([]byte, n)
				w[i] = byte(1 + next(255))
			}
			want := values(w, n-k)
			l, e := c.Syndromes(w)
			if e != api.OK || !bytes.Equal(l, want) {
				t.Fatal(s, w, l, want, e)
			}
			if c.Right(w) != nought(want) {
				t.Fatal(s, w)
			}
		}
	}
}

// roots is the product of x - Exp(i) for each i of l, the highest power first.
func roots(l ...int) []byte {
	p := []byte{1}
	for _, i := range l {
		p = append(p, 0)
		for j := len(p) - 1; j > 0; j-- {
			p[j] ^= products[p[j-1]][powers[i]]
		}
	}
	return p
}

// P6.1: a word that is 0 at all places but one isn't right, whichever that is; one that is 0 at those, and not behind them, is.
func TestEachPlaceCounts(t *testing.T) {
	for _, s := range [][2]int{{3, 1}, {4, 2}, {9, 3}, {14, 8}, {65, 1}, {255, 191}} {
		n, k := s[0], s[1]
		c := code(t, n, k)
		var all []int
		for i := range n - k {
			all = append(all, i)
		}
		for i := range all {
			but := append(append([]int{}, all[:i]...), all[i+1:]...)
			w := make([]byte, n)
			copy(w[k:], roots(but...))
			l, e := c.Syndromes(w)
			if e != api.OK || l[i] == 0 || c.Right(w) {
				t.Fatal(s, i, l, e)
			}
			l[i] = 0
			if !nought(l) {
				t.Fatal(s, i, l)
			}
		}
		w := make([]byte, n)
		copy(w[k-1:], roots(all...))
		if n-k < len(powers) && values(w, n-k+1)[n-k] == 0 {
			t.Fatal("the test's own word is 0 at one place more", s)
		}
		if !c.Right(w) {
			t.Fatal(s, w)
		}
	}
}

// weight is how many bytes aren't 0.
func weight(w []byte) int {
	return len(w) - bytes.Count(w, []byte{0})
}

// P6.1: unlike codewords differ in more than n - k bytes: all pairs of codes with one byte of data.
func TestPairsDiffer(t *testing.T) {
	for _, n := range []int{2, 3, 4, 7, 14, 30, 65} {
		c := code(t, n, 1)
		var l [][]byte
		for d := range 256 {
			l = append(l, encoded(t, c, []byte{byte(d)}))
		}
		for i, a := range l {
			for _, b := range l[:i] {
				d := 0
				for j := range a {
					if a[j] != b[j] {
						d++
					}
				}
				if d <= n-1 {
					t.Fatal(a, b)
				}
			}
		}
	}
}

// P6.1: as sums and multiples of codewords are codewords, two differ where their sum isn't 0: all codewords with two bytes of data, and with three whose first is 1, have more than n - k bytes that aren't 0, and some of them just one more.
func TestWeights(t *testing.T) {
	for _, n := range []int{3, 4, 8, 9, 14, 40} {
		c := code(t, n, 2)
		least := n
		for d := 1; d < 256*256; d++ {
			least = min(least, weight(encoded(t, c, []byte{byte(d >> 8), byte(d)})))
		}
		if least != n-2+1 {
			t.Error(n, least)
		}
	}
	for _, n := range []int{4, 5, 9} {
		c := code(t, n, 3)
		least := n
		for d := range 256 * 256 {
			least = min(least, weight(encoded(t, c, []byte{1, byte(d >> 8), byte(d)})))
		}
		if least != n-3+1 {
			t.Error(n, least)
		}
	}
}

// P6.1: sums and multiples of codewords are codewords.
func TestLinear(t *testing.T) {
	next := chance()
	for _, s := range sizes() {
		c := code(t, s[0], s[1])
		for range 20 {
			a, b, m := some(next, s[1]), some(next, s[1]), byte(next(256))
			v, w := encoded(t, c, a), encoded(t, c, b)
			for i := range a {
				a[i] = products[a[i]][m] ^ b[i]
			}
			for i := range v {
				v[i] = products[v[i]][m] ^ w[i]
			}
			if got := encoded(t, c, a); !bytes.Equal(got, v) || !c.Right(v) {
				t.Fatal(s, a, got, v)
			}
		}
	}
}

// full tells whether the rows, each as long as there are rows, have full rank.
func full(l [][]byte) bool {
	for i := range l {
		p := i
		for p < len(l) && l[p][i] == 0 {
			p++
		}
		if p == len(l) {
			return false
		}
		l[i], l[p] = l[p], l[i]
		for j := i + 1; j < len(l); j++ {
			// Crosswise multiples: so no quotient is needed.
			a, b := l[i][i], l[j][i]
			for k := range l[j] {
				l[j][k] = products[l[j][k]][a] ^ products[l[i][k]][b]
			}
		}
	}
	return true
}

// basis is what the data with a 1 and noughts are encoded to.
func basis(t *testing.T, c *rs.Code) [][]byte {
	t.Helper()
	_, k := c.Size()
	var l [][]byte
	for i := range k {
		d := make([]byte, k)
		d[i] = 1
		l = append(l, encoded(t, c, d))
	}
	return l
}

// fixed tells whether the bytes at those places, k of them, tell a codeword: then no two unlike ones are alike there.
func fixed(words [][]byte, places []int) bool {
	l := make([][]byte, len(words))
	for i, w := range words {
		for _, p := range places {
			l[i] = append(l[i], w[p])
		}
	}
	return full(l)
}

// P6.1: no two unlike codewords are alike in any k places: all choices of places in all codes that the store can have.
func TestAnyPlacesFix(t *testing.T) {
	for k := 1; k <= api.MaxData; k++ {
		for n := k + 1; n <= k+api.MaxParity; n++ {
			words := basis(t, code(t, n, k))
			for set := range 1 << n {
				var places []int
				for p := range n {
					if set>>p&1 == 1 {
						places = append(places, p)
					}
				}
				if len(places) == k && !fixed(words, places) {
					t.Fatal(n, k, places)
				}
			}
		}
	}
}

// P6.1: likewise in the longest codes: runs of places, also over the end, and some choices.
func TestAnyPlacesFixLong(t *testing.T) {
	next := chance()
	for _, s := range [][2]int{{65, 1}, {255, 254}, {255, 250}, {255, 191}, {100, 36}, {128, 64}} {
		n, k := s[0], s[1]
		words := basis(t, code(t, n, k))
		for range 12 {
			first := next(n)
			var run, far []int
			for i := range k {
				run = append(run, (first+i)%n)
			}
			order := make([]int, n)
			for i := range order {
				j := next(i + 1)
				order[i], order[j] = order[j], i
			}
			far = order[:k]
			if !fixed(words, run) || !fixed(words, far) {
				t.Fatal(s, run, far)
			}
		}
	}
}

// P6.1: a codeword of which from 1 to n - k bytes are turned is none.
func TestTurned(t *testing.T) {
	next := chance()
	for _, s := range sizes() {
		n, k := s[0], s[1]
		c := code(t, n, k)
		for m := 1; m <= n-k; m++ {
			w := encoded(t, c, some(next, k))
			turned := map[int]bool{}
			for len(turned) < m {
				if p := next(n); !turned[p] {
					turned[p] = true
					w[p] ^= byte(1 + next(255))
				}
			}
			if c.Right(w) {
				t.Fatal(s, m, w)
			}
		}
	}
}

// P6.1: ErrArg and no bytes, or false, of any length but the one that must be.
func TestWrongLengths(t *testing.T) {
	for _, s := range [][2]int{{2, 1}, {4, 2}, {7, 4}, {14, 8}, {65, 1}, {255, 191}, {255, 254}} {
		n, k := s[0], s[1]
		c := code(t, n, k)
		for _, fill := range []byte{0, 1} {
			for m := range 520 {
				l := bytes.Repeat([]byte{fill}, m)
				p, e := c.Parity(l)
				w, g := c.Encode(l)
				if m != k && (p != nil || e != api.ErrArg || w != nil || g != api.ErrArg) {
					t.Fatal(s, m, p, e, w, g)
				}
				if m == k && (len(p) != n-k || e != api.OK || len(w) != n || g != api.OK) {
					t.Fatal(s, m, p, e, w, g)
				}
				v, e := c.Syndromes(l)
				if m != n && (v != nil || e != api.ErrArg || c.Right(l)) {
					t.Fatal(s, m, v, e)
				}
				if m == n && (len(v) != n-k || e != api.OK) {
					t.Fatal(s, m, v, e)
				}
			}
		}
		for _, none := range [][]byte{nil, {}} {
			if p, e := c.Parity(none); p != nil || e != api.ErrArg {
				t.Error(s, p, e)
			}
			if v, e := c.Syndromes(none); v != nil || e != api.ErrArg || c.Right(none) {
				t.Error(s, v, e)
			}
		}
	}
}

// P6.1: a nil code, and one that New didn't make, have no size and no field, and refuse whatever they are given.
func TestNone(t *testing.T) {
	for _, c := range []*rs.Code{nil, {}} {
		if n, k := c.Size(); n != 0 || k != 0 {
			t.Error(n, k)
		}
		if f := c.Over(); f != nil {
			t.Error(f)
		}
		for _, l := range [][]byte{nil, {}, {0}, {1, 1}, {0, 0, 0, 0}, make([]byte, 255)} {
			if p, e := c.Parity(l); p != nil || e != api.ErrArg {
				t.Error(l, p, e)
			}
			if w, e := c.Encode(l); w != nil || e != api.ErrArg {
				t.Error(l, w, e)
			}
			if v, e := c.Syndromes(l); v != nil || e != api.ErrArg {
				t.Error(l, v, e)
			}
			if c.Right(l) {
				t.Error(l)
			}
		}
	}
}

// P6.1: two codes over one field are codes of their own, also one over a field that gf.New didn't make.
func TestCodesApart(t *testing.T) {
	f := gf.New()
	a, _ := rs.New(f, 7, 4)
	b, _ := rs.New(f, 9, 4)
	c, e := rs.New(new(gf.Field), 7, 4)
	if e != api.OK || c.Over() == f || a.Over() != f || b.Over() != f {
		t.Fatal(e)
	}
	d := []byte("test")
	v, w, x := encoded(t, a, d), encoded(t, b, d), encoded(t, c, d)
	if !bytes.Equal(v, x) || !nought(values(v, 3)) || !nought(values(w, 5)) {
		t.Error(v, w, x)
	}
	if a.Right(w) || b.Right(v) || !a.Right(x) || !c.Right(v) {
		t.Error(v, w, x)
	}
}

// P6.1 with rule 2: no argument is written into; what is answered shares no memory with one, nor with another answer, nor with the code.
func TestOwnMemory(t *testing.T) {
	for _, s := range [][2]int{{2, 1}, {7, 4}, {14, 8}, {255, 191}} {
		n, k := s[0], s[1]
		c := code(t, n, k)
		next := chance()
		// There is room behind the data: nothing may be written there either.
		room := some(next, 2*n)
		word := some(next, n)
		room0, word0 := bytes.Clone(room), bytes.Clone(word)
		answers := func() [][]byte {
			p, _ := c.Parity(room[:k])
			w, _ := c.Encode(room[:k])
			v, _ := c.Syndromes(word)
			c.Right(word)
			return [][]byte{p, w, v}
		}
		l, want := answers(), answers()
		for i := range l {
			want[i] = bytes.Clone(want[i])
		}
		if !bytes.Equal(room, room0) || !bytes.Equal(word, word0) {
			t.Fatal(s, room, word)
		}
		for i, a := range l {
			if !bytes.Equal(a, want[i]) {
				t.Fatal(s, i, a, want[i])
			}
			// Whoever has an answer may write into it, and behind it.
			a = a[:cap(a)]
			for j := range a {
				a[j] ^= 51
			}
		}
		if !bytes.Equal(room, room0) || !bytes.Equal(word, word0) {
			t.Fatal(s, room, word)
		}
		for i, a := range answers() {
			if !bytes.Equal(a, want[i]) {
				t.Fatal(s, i, a, want[i])
			}
		}
	}
}
