package solve_test

import (
	"bytes"
	"math"
	"slices"
	"testing"

	"triptych/api"
	"triptych/gf"
	"triptych/rs"
	"triptych/solve"
)

// modulus is x^8 + x^4 + x^3 + x^2 + 1.
const modulus = 1<<8 | 1<<4 | 1<<3 | 1<<2 | 1

// product is the product of two bytes, worked out bit by bit.
func product(a, b byte) byte {
	p := 0
	for i := range 8 {
		if b>>i&1 == 1 {
			p ^= int(a) << i
		}
	}
	for i := 14; i >= 8; i-- {
		if p>>i&1 == 1 {
			p ^= modulus << (i - 8)
		}
	}
	return byte(p)
}

// products are all of them.
var products = func() (l [256][256]byte) {
	for a := range l {
		for b := range l[a] {
			l[a][b] = product(byte(a), byte(b))
		}
	}
	return l
}()

// inverses are what makes 1 with each byte but 0.
var inverses = func() (l [256]byte) {
	for a := range 256 {
		for b := range 256 {
			if products[a][b] == 1 {
				l[a] = byte(b)
			}
		}
	}
	return l
}()

// powers are the powers of x.
var powers = func() (l [255]byte) {
	l[0] = 1
	for i := range l[1:] {
		l[i+1] = products[l[i]][2]
	}
	return l
}()

// values are what a word is at the first n powers of x: the last byte is multiplied with 1.
func values(word []byte, n int) []byte {
	l := make([]byte, n)
	for i := range l {
		for j, b := range word {
			l[i] ^= products[b][powers[i*(len(word)-1-j)%255]]
		}
	}
	return l
}

// nought tells whether all bytes are 0.
func nought(l []byte) bool {
	return len(bytes.Trim(l, "\x00")) == 0
}

// chance answers numbers that look like chance, and are always the same ones.
func chance() func(below int) int {
	s := uint32(1)
	return func(below int) int {
		s = s*1664525 + 1013904223
		return int(s>>8) % below
	}
}

// some is n bytes, with noughts among them.
func some(next func(int) int, n int) []byte {
	l := make([]byte, n)
	for i := range l {
		if next(4) != 0 {
			l[i] = byte(next(256))
		}
	}
	return l
}

// order is the numbers below n, each once.
func order(next func(int) int, n int) []int {
	l := make([]int, n)
	for i := range l {
		j := next(i + 1)
		l[i] = l[j]
		l[j] = i
	}
	return l
}

// code is a code that there is.
func code(t *testing.T, n, k int) *rs.Code {
	t.Helper()
	c, e := rs.New(gf.New(), n, k)
	if e != api.OK {
		t.Fatal(n, k, e)
	}
	return c
}

// encoded is what data are encoded to.
func encoded(t *testing.T, c *rs.Code, data []byte) []byte {
	t.Helper()
	w, e := c.Encode(data)
	if e != api.OK {
		t.Fatal(data, e)
	}
	return w
}

// answer is what Mend and Other answer.
type answer struct {
	word   []byte
	places []int
	e      api.Errno
}

// both is what Mend answers; it is told when Other answers something else, or when one of them writes into its arguments.
func both(t *testing.T, c *rs.Code, word []byte, erased ...int) answer {
	t.Helper()
	word0, erased0 := bytes.Clone(word), slices.Clone(erased)
	var a, b answer
	a.word, a.places, a.e = solve.Mend(c, word, erased...)
	b.word, b.places, b.e = solve.Other(c, word, erased...)
	if a.e != b.e || !bytes.Equal(a.word, b.word) || !slices.Equal(a.places, b.places) {
		t.Fatal("Mend and Other are two", word, erased, a, b)
	}
	if !bytes.Equal(word, word0) || !slices.Equal(erased, erased0) {
		t.Fatal("an argument was written into", word0, erased0, word, erased)
	}
	return a
}

// refused tells it when Mend or Other answers anything but one error.
func refused(t *testing.T, want api.Errno, c *rs.Code, word []byte, erased ...int) {
	t.Helper()
	if a := both(t, c, word, erased...); a.e != want || a.word != nil || a.places != nil {
		t.Fatal(want, word, erased, a)
	}
	if w, l, _ := solve.Other(c, word, erased...); w != nil || l != nil {
		t.Fatal(word, erased, w, l)
	}
}

// mends tells it when a word isn't mended to want.
func mends(t *testing.T, want []byte, c *rs.Code, word []byte, erased ...int) {
	t.Helper()
	a := both(t, c, word, erased...)
	if a.e != api.OK || !bytes.Equal(a.word, want) || !slices.Equal(a.places, apart(word, want)) {
		t.Fatal(word, erased, want, a)
	}
}

// meets tells it when a word isn't mended to want, or refused where want is nil.
func meets(t *testing.T, want []byte, c *rs.Code, word []byte, erased ...int) {
	t.Helper()
	if want == nil {
		refused(t, api.ErrBad, c, word, erased...)
	} else {
		mends(t, want, c, word, erased...)
	}
}

// apart is the places where two words have other bytes, rising.
func apart(a, b []byte) []int {
	var l []int
	for i := range a {
		if a[i] != b[i] {
			l = append(l, i)
		}
	}
	return l
}

// beside is how many of the places aren't among the erased ones.
func beside(places, erased []int) int {
	n := 0
	for _, i := range places {
		if !slices.Contains(erased, i) {
			n++
		}
	}
	return n
}

// unlike is how many unlike numbers there are.
func unlike(l []int) int {
	m := map[int]bool{}
	for _, i := range l {
		m[i] = true
	}
	return len(m)
}

// room is how many others may differ: below 0 where too many are erased.
func room(n, k, erased int) int {
	left := n - k - erased
	if left < 0 {
		return -1
	}
	return left / 2
}

// sought is the mended word, found among all codewords; nil where there is none.
func sought(t *testing.T, words [][]byte, k int, word []byte, erased []int) []byte {
	t.Helper()
	var found []byte
	for _, w := range words {
		if beside(apart(word, w), erased) > room(len(word), k, unlike(erased)) {
			continue
		}
		if found != nil {
			t.Fatal("the test has found two", word, erased, found, w)
		}
		found = w
	}
	return found
}

// subsets calls f with each choice of so many numbers below n.
func subsets(n, size int, f func([]int)) {
	var l []int
	var from func(first int)
	from = func(first int) {
		if len(l) == size {
			f(slices.Clone(l))
			return
		}
		for i := first; i < n; i++ {
			l = append(l, i)
			from(i + 1)
			l = l[:len(l)-1]
		}
	}
	from(0)
}

// filled is the codeword that differs from a word at those places alone, at most parity, nil where there is none: found by taking the values away row by row.
func filled(word []byte, parity int, places []int) []byte {
	n := len(word)
	v := values(word, parity)
	rows := make([][]byte, parity)
	for i := range rows {
		for _, p := range places {
			rows[i] = append(rows[i], powers[i*(n-1-p)%255])
		}
		rows[i] = append(rows[i], v[i])
	}
	for i := range places {
		p := i
		for rows[p][i] == 0 {
			p++
		}
		rows[i], rows[p] = rows[p], rows[i]
		f := inverses[rows[i][i]]
		for k := range rows[i] {
			rows[i][k] = products[rows[i][k]][f]
		}
		for j := range rows {
			if f := rows[j][i]; j != i && f != 0 {
				for k := range rows[j] {
					rows[j][k] ^= products[rows[i][k]][f]
				}
			}
		}
	}
	for _, r := range rows[len(places):] {
		if r[len(places)] != 0 {
			return nil
		}
	}
	w := bytes.Clone(word)
	for i, p := range places {
		w[p] ^= rows[i][len(places)]
	}
	return w
}

// tried is the mended word, found by trying each choice of others; nil where there is none.
func tried(word []byte, k int, erased []int) []byte {
	n := len(word)
	size := room(n, k, unlike(erased))
	if size < 0 {
		return nil
	}
	gone := slices.Compact(slices.Sorted(slices.Values(erased)))
	var rest []int
	for i := range n {
		if !slices.Contains(gone, i) {
			rest = append(rest, i)
		}
	}
	var found []byte
	subsets(len(rest), min(size, len(rest)), func(l []int) {
		if found != nil {
			return
		}
		places := slices.Clone(gone)
		for _, i := range l {
			places = append(places, rest[i])
		}
		found = filled(word, n-k, places)
	})
	return found
}

// P7.1: what the chapter's example says: a codeword with two wrong bytes, nobody knows where, is mended; three can't be told.
func TestExample(t *testing.T) {
	c := code(t, 6, 2)
	w := encoded(t, c, []byte{7, 200})
	subsets(6, 2, func(l []int) {
		for _, by := range []byte{1, 2, 128, 255} {
			x := bytes.Clone(w)
			x[l[0]] ^= by
			x[l[1]] ^= 77
			mends(t, w, c, x)
		}
	})
}

// P7.1: words that are worked out by hand: of n 4, k 2 the codewords are the multiples of x^2 + 3x + 2.
func TestKnown(t *testing.T) {
	for _, s := range []struct {
		n, k   int
		word   []byte
		erased []int
		want   []byte
		places []int
		e      api.Errno
	}{
		{4, 2, []byte{1, 2, 1, 2}, nil, []byte{1, 2, 1, 2}, nil, api.OK},
		{4, 2, []byte{1, 9, 1, 2}, nil, []byte{1, 2, 1, 2}, []int{1}, api.OK},
		{4, 2, []byte{0, 0, 0, 9}, nil, []byte{0, 0, 0, 0}, []int{3}, api.OK},
		{4, 2, []byte{5, 2, 1, 6}, []int{3, 0}, []byte{1, 2, 1, 2}, []int{0, 3}, api.OK},
		{4, 2, []byte{1, 2, 1, 6}, []int{3, 0}, []byte{1, 2, 1, 2}, []int{3}, api.OK},
		{4, 2, []byte{1, 2, 1, 2}, []int{1, 2}, []byte{1, 2, 1, 2}, nil, api.OK},
		// One is erased, and no room is left for another: (2 - 1) / 2 is 0, rounded down.
		{4, 2, []byte{9, 2, 1, 2}, []int{0}, []byte{1, 2, 1, 2}, []int{0}, api.OK},
		{4, 2, []byte{1, 9, 1, 2}, []int{0}, nil, nil, api.ErrBad},
		// Of a codeword three are erased: (2 - 3) / 2 is -1, rounded down.
		{4, 2, []byte{1, 2, 1, 2}, []int{0, 1, 2}, nil, nil, api.ErrBad},
		{4, 2, []byte{1, 2, 1, 2}, []int{0, 1, 2, 3}, nil, nil, api.ErrBad},
		// One byte of parity: the sum is 0.
		{2, 1, []byte{7, 7}, nil, []byte{7, 7}, nil, api.OK},
		{2, 1, []byte{7, 8}, nil, nil, nil, api.ErrBad},
		{2, 1, []byte{7, 8}, []int{0}, []byte{8, 8}, []int{0}, api.OK},
		{2, 1, []byte{7, 8}, []int{1}, []byte{7, 7}, []int{1}, api.OK},
		{2, 1, []byte{7, 7}, []int{0, 1}, nil, nil, api.ErrBad},
		// Two of n 3, k 1: the most bytes say it.
		{3, 1, []byte{1, 3, 2}, nil, []byte{1, 3, 2}, nil, api.OK},
		{3, 1, []byte{1, 0, 2}, nil, []byte{1, 3, 2}, []int{1}, api.OK},
		{3, 1, []byte{1, 0, 0}, nil, []byte{0, 0, 0}, []int{0}, api.OK},
		{3, 1, []byte{1, 9, 9}, nil, nil, nil, api.ErrBad},
	} {
		a := both(t, code(t, s.n, s.k), s.word, s.erased...)
		if a.e != s.e || !bytes.Equal(a.word, s.want) || !slices.Equal(a.places, s.places) {
			t.Error(s, a)
		}
	}
}

// P7.1: any word is mended to the codeword that is found among all of them, or refused where there is none: codes with one byte of data, each choice of erased places of the short ones.
func TestAmongAll(t *testing.T) {
	next := chance()
	for _, n := range []int{2, 3, 4, 5, 6, 7} {
		c := code(t, n, 1)
		var words [][]byte
		for d := range 256 {
			words = append(words, encoded(t, c, []byte{byte(d)}))
		}
		found, none := 0, 0
		for size := range n + 1 {
			subsets(n, size, func(erased []int) {
				for i := range 12 {
					w := some(next, n)
					if i%3 != 0 {
						w = bytes.Clone(words[next(256)])
						for range next(n + 1) {
							w[next(n)] = byte(next(256))
						}
					}
					want := sought(t, words, 1, w, erased)
					meets(t, want, c, w, erased...)
					if want == nil {
						none++
					} else {
						found++
					}
				}
			})
		}
		if found < 20 || none < 20 {
			t.Error("the test's words are of one kind", n, found, none)
		}
	}
}

// P7.1: likewise of long words with one byte of data, up to the longest.
func TestAmongAllLong(t *testing.T) {
	next := chance()
	for _, n := range []int{8, 14, 31, 64, 65} {
		c := code(t, n, 1)
		var words [][]byte
		for d := range 256 {
			words = append(words, encoded(t, c, []byte{byte(d)}))
		}
		for range 60 {
			erased := order(next, n)[:next(n+1)]
			w := bytes.Clone(words[next(256)])
			// So many others that some are just within, and some just beyond.
			turned := max(0, room(n, 1, len(erased))+next(3)-1)
			for _, i := range order(next, n)[:min(n, turned)] {
				w[i] = byte(next(256))
			}
			for _, i := range erased {
				w[i] = byte(next(256))
			}
			meets(t, sought(t, words, 1, w, erased), c, w, erased...)
		}
	}
}

// P7.1: likewise of all words of n 3, k 1 whose first byte is one of some, with nothing erased.
func TestAllWords(t *testing.T) {
	c := code(t, 3, 1)
	for _, first := range []byte{0, 29} {
		for d := range 256 * 256 {
			w := []byte{first, byte(d >> 8), byte(d)}
			// Two bytes of a codeword tell the third, and two bytes of parity tell of one wrong byte.
			var want []byte
			for i := range w {
				if x := filled(w, 2, []int{i}); x != nil {
					want = x
				}
			}
			a, at, e := solve.Mend(c, w)
			b, on, g := solve.Other(c, w)
			if (e == api.OK) != (want != nil) || !bytes.Equal(a, want) || want != nil && !slices.Equal(at, apart(w, want)) {
				t.Fatal(w, want, a, at, e)
			}
			if e != g || !bytes.Equal(a, b) || !slices.Equal(at, on) {
				t.Fatal(w, a, at, e, b, on, g)
			}
		}
	}
}

// P7.1: in all codes that the store can have any word is mended to the codeword that is found by trying all choices of others, or refused where none of them does it.
func TestTried(t *testing.T) {
	next := chance()
	found, none := 0, 0
	for k := 1; k <= api.MaxData; k++ {
		for n := k + 1; n <= k+api.MaxParity; n++ {
			c := code(t, n, k)
			for i := range 60 {
				w := some(next, n)
				if i%6 != 0 {
					w = encoded(t, c, some(next, k))
				}
				erased := order(next, n)[:next(min(n, n-k+2)+1)]
				for range next(n - k + 1) {
					w[next(n)] = byte(next(256))
				}
				for _, p := range erased {
					w[p] = byte(next(256))
				}
				want := tried(w, k, erased)
				meets(t, want, c, w, erased...)
				if want == nil {
					none++
				} else {
					found++
				}
			}
		}
	}
	if found < 500 || none < 500 {
		t.Error("the test's words are of one kind", found, none)
	}
}

// P7.1: likewise in long codes with little parity, where many words that are no codeword's lie near one.
func TestTriedLong(t *testing.T) {
	next := chance()
	found, none := 0, 0
	for _, s := range [][2]int{{255, 254}, {255, 253}, {255, 252}, {100, 97}, {60, 56}, {40, 35}} {
		n, k := s[0], s[1]
		c := code(t, n, k)
		for range 30 {
			w := some(next, n)
			erased := order(next, n)[:next(n-k+1)]
			want := tried(w, k, erased)
			meets(t, want, c, w, erased...)
			if want == nil {
				none++
			} else {
				found++
			}
		}
	}
	if found < 20 || none < 20 {
		t.Error("the test's words are of one kind", found, none)
	}
}

// P7.2: in all codes that the store can have: each choice of erased places and of others, Within, with any other bytes there, also where just some of the erased bytes are turned.
func TestWithinIsMended(t *testing.T) {
	next := chance()
	for k := 1; k <= api.MaxData; k++ {
		for n := k + 1; n <= k+api.MaxParity; n++ {
			c := code(t, n, k)
			w := encoded(t, c, some(next, k))
			for set := range 1 << n {
				var erased, rest []int
				for i := range n {
					if set>>i&1 == 1 {
						erased = append(erased, i)
					} else {
						rest = append(rest, i)
					}
				}
				most := room(n, k, len(erased))
				if most < 0 {
					continue
				}
				// All choices of others are too many: one of each count.
				for others := range most + 1 {
					if !solve.Within(c, len(erased), others) {
						t.Fatal(n, k, erased, others)
					}
					x := bytes.Clone(w)
					for _, i := range erased {
						x[i] = byte(next(256))
					}
					for _, i := range order(next, len(rest))[:min(others, len(rest))] {
						x[rest[i]] ^= byte(1 + next(255))
					}
					mends(t, w, c, x, erased...)
				}
			}
		}
	}
}

// P7.2: each choice of places that are turned, none of them erased, in the greatest code that the store can have, and in others.
func TestEachChoiceIsMended(t *testing.T) {
	next := chance()
	for _, s := range [][2]int{{14, 8}, {13, 8}, {12, 8}, {10, 4}, {7, 1}, {60, 58}, {255, 253}, {40, 36}} {
		n, k := s[0], s[1]
		c := code(t, n, k)
		w := encoded(t, c, some(next, k))
		for size := range (n-k)/2 + 1 {
			subsets(n, size, func(l []int) {
				x := bytes.Clone(w)
				for _, i := range l {
					x[i] ^= byte(1 + next(255))
				}
				mends(t, w, c, x)
			})
		}
	}
}

// P7.2: each byte that may stand at a wrong place.
func TestEachByteIsMended(t *testing.T) {
	c := code(t, 5, 1)
	w := encoded(t, c, []byte{99})
	for d := range 256 * 256 {
		x := bytes.Clone(w)
		x[1], x[4] = byte(d>>8), byte(d)
		mends(t, w, c, x)
	}
	for d := range 256 {
		for i := range 5 {
			for j := range 5 {
				x := bytes.Clone(w)
				x[j] ^= 5
				x[i] = byte(d)
				mends(t, w, c, x, i)
			}
		}
	}
}

// P7.2: long codes, up to the greatest that there are: as many are turned as may be, with from none to all of them erased.
func TestWithinIsMendedLong(t *testing.T) {
	next := chance()
	for _, s := range [][2]int{{255, 191}, {255, 192}, {255, 250}, {254, 190}, {200, 150}, {128, 64}, {66, 2}, {65, 1}, {64, 1}} {
		n, k := s[0], s[1]
		c := code(t, n, k)
		for lost := 0; lost <= n-k; lost++ {
			w := encoded(t, c, some(next, k))
			l := order(next, n)
			erased, rest := l[:lost], l[lost:]
			x := bytes.Clone(w)
			for _, i := range erased {
				x[i] = byte(next(256))
			}
			others := min(room(n, k, lost), len(rest))
			if lost%3 == 2 {
				others = next(others + 1)
			}
			for _, i := range rest[:others] {
				x[i] ^= byte(1 + next(255))
			}
			mends(t, w, c, x, erased...)
		}
	}
}

// P7.2: runs of places at a word's beginning and end, all of them erased, or half as many turned.
func TestRuns(t *testing.T) {
	next := chance()
	for _, s := range [][2]int{{14, 8}, {65, 1}, {255, 191}, {255, 253}} {
		n, k := s[0], s[1]
		c := code(t, n, k)
		w := encoded(t, c, some(next, k))
		for _, first := range []int{0, k, n - (n-k)/2, 1} {
			var run []int
			for i := range n - k {
				run = append(run, (first+i)%n)
			}
			x := bytes.Clone(w)
			for _, i := range run {
				x[i] ^= byte(1 + next(255))
			}
			mends(t, w, c, x, run...)
			y := bytes.Clone(w)
			for _, i := range run[:(n-k)/2] {
				y[i] = x[i]
			}
			mends(t, w, c, y)
		}
	}
}

// P7.1: a codeword is mended to itself, with no place, however many are erased up to n - k; with more it is refused.
func TestCodewords(t *testing.T) {
	next := chance()
	for _, s := range [][2]int{{2, 1}, {3, 1}, {4, 2}, {14, 8}, {65, 1}, {255, 191}, {255, 254}} {
		n, k := s[0], s[1]
		c := code(t, n, k)
		for _, data := range [][]byte{make([]byte, k), bytes.Repeat([]byte{255}, k), some(next, k)} {
			w := encoded(t, c, data)
			l := order(next, n)
			for lost := 0; lost <= n; lost++ {
				if lost <= n-k {
					mends(t, w, c, w, l[:lost]...)
				} else {
					refused(t, api.ErrBad, c, w, l[:lost]...)
				}
			}
		}
	}
}

// P7.1: a place that stands there twice counts once, wherever it stands, and the order is no matter.
func TestTwice(t *testing.T) {
	next := chance()
	for _, s := range [][2]int{{2, 1}, {4, 2}, {10, 4}, {14, 8}, {255, 191}} {
		n, k := s[0], s[1]
		c := code(t, n, k)
		w := encoded(t, c, some(next, k))
		for lost := 1; lost <= min(n, n-k+1); lost++ {
			erased := order(next, n)[:lost]
			x := bytes.Clone(w)
			for _, i := range erased {
				x[i] ^= byte(1 + next(255))
			}
			var many []int
			for range 5 {
				for _, i := range order(next, lost) {
					many = append(many, erased[i], erased[0])
				}
			}
			a, b := both(t, c, x, erased...), both(t, c, x, many...)
			if a.e != b.e || !bytes.Equal(a.word, b.word) || !slices.Equal(a.places, b.places) || (a.e == api.OK) != (lost <= n-k) {
				t.Fatal(s, erased, many, a, b)
			}
			// Room is left for others as if each stood there once.
			others := room(n, k, lost)
			if others < 1 {
				continue
			}
			for i := range n {
				if others > 0 && !slices.Contains(erased, i) {
					x[i] ^= byte(1 + next(255))
					others--
				}
			}
			mends(t, w, c, x, many...)
		}
	}
}

// P7.1: what differs in one more than may be isn't mended to that codeword: it is refused, or another is nearer.
func TestTooMuch(t *testing.T) {
	next := chance()
	bad := 0
	for _, s := range [][2]int{{2, 1}, {3, 2}, {4, 2}, {7, 4}, {14, 8}, {10, 4}, {65, 1}, {255, 191}} {
		n, k := s[0], s[1]
		c := code(t, n, k)
		for lost := 0; lost <= n-k; lost++ {
			w := encoded(t, c, some(next, k))
			l := order(next, n)
			erased, rest := l[:lost], l[lost:]
			x := bytes.Clone(w)
			others := room(n, k, lost) + 1
			if others > len(rest) {
				continue
			}
			for _, i := range append(slices.Clone(erased), rest[:others]...) {
				x[i] ^= byte(1 + next(255))
			}
			a := both(t, c, x, erased...)
			if a.e == api.ErrBad {
				bad++
				refused(t, api.ErrBad, c, x, erased...)
				continue
			}
			if a.e != api.OK || bytes.Equal(a.word, w) || !nought(values(a.word, n-k)) || beside(apart(x, a.word), erased) >= others || !slices.Equal(a.places, apart(x, a.word)) {
				t.Fatal(s, w, x, erased, a)
			}
		}
	}
	if bad < 50 {
		t.Error("too few are refused", bad)
	}
}

// P7.1: ErrArg of a nil code and of one that New didn't make, whatever else is given.
func TestNoCode(t *testing.T) {
	for _, c := range []*rs.Code{nil, {}} {
		for _, w := range [][]byte{nil, {}, {0}, {1, 1}, {0, 0, 0, 0}, make([]byte, 255)} {
			for _, l := range [][]int{nil, {}, {0}, {0, 1, 2}, {-1}, {math.MinInt, math.MaxInt}} {
				refused(t, api.ErrArg, c, w, l...)
			}
		}
	}
}

// P7.1: ErrArg of a word of any other length, also with erased places that are too many.
func TestWrongLengths(t *testing.T) {
	for _, s := range [][2]int{{2, 1}, {4, 2}, {14, 8}, {65, 1}, {255, 191}} {
		c := code(t, s[0], s[1])
		for m := range 300 {
			if m == s[0] {
				continue
			}
			w := bytes.Repeat([]byte{1}, m)
			refused(t, api.ErrArg, c, w)
			refused(t, api.ErrArg, c, w, 0)
			refused(t, api.ErrArg, c, w, order(chance(), s[0])...)
		}
		refused(t, api.ErrArg, c, nil)
		refused(t, api.ErrArg, c, nil, 0, 1)
	}
}

// P7.1: ErrArg of an erased place that there isn't, wherever it stands, also where too many are erased, and where all bytes are right.
func TestWrongPlaces(t *testing.T) {
	for _, s := range [][2]int{{2, 1}, {4, 2}, {14, 8}, {65, 1}, {255, 191}} {
		n, k := s[0], s[1]
		c := code(t, n, k)
		w := encoded(t, c, make([]byte, k))
		v := bytes.Repeat([]byte{3}, n)
		v[0] = 8
		for _, x := range [][]byte{w, v} {
			for _, i := range []int{-1, n, n + 1, -n, 2 * n, 255, 256, 1 << 32, -1 << 32, math.MinInt, math.MaxInt} {
				if i >= 0 && i < n {
					continue
				}
				refused(t, api.ErrArg, c, x, i)
				refused(t, api.ErrArg, c, x, 0, i)
				refused(t, api.ErrArg, c, x, i, 0)
				refused(t, api.ErrArg, c, x, append(order(chance(), n), i)...)
			}
			mends(t, w, c, w, 0)
			mends(t, w, c, w, n-1)
		}
	}
}

// P7.1, P7.2: Within tells whether erased and twice others are at most n - k, and none of both is below 0.
func TestWithin(t *testing.T) {
	for _, s := range [][2]int{{2, 1}, {3, 1}, {4, 2}, {6, 2}, {14, 8}, {65, 1}, {255, 191}, {255, 254}} {
		c := code(t, s[0], s[1])
		for erased := -5; erased < 140; erased++ {
			for others := -5; others < 70; others++ {
				want := erased >= 0 && others >= 0 && erased+2*others <= s[0]-s[1]
				if solve.Within(c, erased, others) != want {
					t.Fatal(s, erased, others, !want)
				}
			}
		}
	}
}

// P7.1, P7.2: Within is false of numbers at the ends of int, whose sums leave it, and of no code.
func TestWithinWrong(t *testing.T) {
	far := []int{math.MinInt, math.MinInt + 1, math.MinInt / 2, -1 << 32, -1, 0, 1 << 32, math.MaxInt / 2, math.MaxInt/2 + 1, math.MaxInt/2 + 2, math.MaxInt - 1, math.MaxInt}
	c := code(t, 14, 8)
	for _, a := range far {
		for _, b := range far {
			if a == 0 && b == 0 {
				continue
			}
			if solve.Within(c, a, b) {
				t.Error(a, b)
			}
		}
	}
	if !solve.Within(c, 0, 0) {
		t.Error("nothing isn't within")
	}
	for _, none := range []*rs.Code{nil, {}} {
		for a := -2; a < 70; a++ {
			for b := -2; b < 35; b++ {
				if solve.Within(none, a, b) {
					t.Fatal(none, a, b)
				}
			}
		}
	}
}

// P7.1: a code over a field that gf.New didn't make mends just so.
func TestPlainField(t *testing.T) {
	c, e := rs.New(new(gf.Field), 10, 4)
	if e != api.OK {
		t.Fatal(e)
	}
	w := encoded(t, c, []byte("abcd"))
	x := bytes.Clone(w)
	x[0], x[3], x[9], x[5] = 1, 2, 3, 4
	mends(t, w, c, x, 9, 0)
	refused(t, api.ErrBad, c, x, 9, 0, 1)
}

// P7.1 with rule 2: nothing behind a word or a list is written into either; what is answered shares no memory with an argument, nor with another answer, nor with the code.
func TestOwnMemory(t *testing.T) {
	for _, s := range [][2]int{{4, 2}, {10, 4}, {14, 8}, {255, 191}} {
		n, k := s[0], s[1]
		c := code(t, n, k)
		next := chance()
		w := encoded(t, c, some(next, k))
		// There is room behind the word and the list.
		long := append(bytes.Clone(w), some(next, n)...)
		list := append(order(next, n), order(next, n)...)
		lost := (n - k) / 2
		for _, i := range list[:lost] {
			long[i] ^= byte(1 + next(255))
		}
		long0, list0 := bytes.Clone(long), slices.Clone(list)
		for _, f := range []func(*rs.Code, []byte, ...int) ([]byte, []int, api.Errno){solve.Mend, solve.Other} {
			m, at, e := f(c, long[:n], list[:lost]...)
			o, on, g := f(c, long[:n], list[:lost]...)
			if e != api.OK || g != api.OK || !bytes.Equal(m, w) || len(at) != lost {
				t.Fatal(s, m, at, e)
			}
			m, at = m[:cap(m)], at[:cap(at)]
			for i := range m {
				m[i] ^= 51
			}
			for i := range at {
				at[i] = -7
			}
			if !bytes.Equal(o, w) || !slices.Equal(on, apart(w, long0[:n])) {
				t.Fatal(s, o, on)
			}
			if !bytes.Equal(long, long0) || !slices.Equal(list, list0) {
				t.Fatal(s, long, list)
			}
			mends(t, w, c, long[:n], list[:lost]...)
			// A right word's answer is new as well.
			r, _, _ := f(c, w)
			r[0] ^= 1
			if !c.Right(w) {
				t.Fatal(s, w)
			}
		}
	}
}
