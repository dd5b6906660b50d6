package num_test

import (
	"math"
	"slices"
	"strings"
	"testing"

	"triptych/api"
	"triptych/num"
)

// wrongSizes are sizes that no number has; those far off would shift or add up to something that looks right, if they weren't refused first.
var wrongSizes = []int{0, 8, -1, -7, 9, 64, 256, 1 << 32, 1<<32 + 1, math.MaxInt, math.MinInt, math.MinInt + 1}

// highest is the highest number that fits in size bytes.
func highest(size int) int { return 1<<(8*size) - 1 }

// P1.1: Put's bytes.
func TestPut(t *testing.T) {
	for _, c := range []struct {
		size int
		l    []int
		want string
	}{
		{2, []int{1, 256}, "\x00\x01\x01\x00"}, // the chapter's example
		{1, []int{0}, "\x00"},
		{1, []int{255, 128, 127}, "\xff\x80\x7f"},
		{3, []int{0x010203, 0xfffefd}, "\x01\x02\x03\xff\xfe\xfd"},
		{4, []int{1 << 31, 1<<32 - 1}, "\x80\x00\x00\x00\xff\xff\xff\xff"},
		{5, []int{0x0102030405}, "\x01\x02\x03\x04\x05"},
		{6, []int{0x010203040506, 7}, "\x01\x02\x03\x04\x05\x06\x00\x00\x00\x00\x00\x07"},
		{7, []int{0x01020304050607, 1<<56 - 1}, "\x01\x02\x03\x04\x05\x06\x07\xff\xff\xff\xff\xff\xff\xff"},
		{1, nil, ""},
		{7, []int{}, ""},
	} {
		if s, e := num.Put(c.size, c.l...); s != c.want || e != api.OK {
			t.Errorf("Put(%d, %d): %q %d, want %q", c.size, c.l, s, e, c.want)
		}
	}
}

// P1.1: of every size the lowest and the highest number are put, their neighbours are not.
func TestPutRange(t *testing.T) {
	for size := 1; size <= 7; size++ {
		top := highest(size)
		want := strings.Repeat("\x00", size) + strings.Repeat("\xff", size)
		if s, e := num.Put(size, 0, top); s != want || e != api.OK {
			t.Errorf("Put(%d, 0, %d): %q %d", size, top, s, e)
		}
		for _, bad := range []int{-1, top + 1, -top, -top - 1, 2*top + 2, math.MaxInt, math.MinInt} {
			for _, l := range [][]int{{bad}, {bad, 1}, {1, bad}, {1, bad, 1}} {
				if s, e := num.Put(size, l...); s != "" || e != api.ErrRange {
					t.Errorf("Put(%d, %d): %q %d", size, l, s, e)
				}
			}
		}
	}
}

// P1.1: a wrong size is told ahead of a wrong number, and of no number too.
func TestPutSize(t *testing.T) {
	for _, size := range wrongSizes {
		for _, l := range [][]int{nil, {0}, {1, 2}, {-1}, {math.MaxInt}} {
			if s, e := num.Put(size, l...); s != "" || e != api.ErrArg {
				t.Errorf("Put(%d, %d): %q %d", size, l, s, e)
			}
		}
	}
}

// P1.1: Take's numbers; what stands behind them doesn't matter.
func TestTake(t *testing.T) {
	for _, c := range []struct {
		s     string
		sizes []int
		want  []int
	}{
		{"\x00\x01\x01\x00", []int{2, 2}, []int{1, 256}},
		{"\x00\x01\x01\x00", []int{1, 3}, []int{0, 65792}},
		{"\x80\xff", []int{1, 1}, []int{128, 255}},
		{"\x80\x00\x00\x00", []int{4}, []int{1 << 31}},
		{"\xff\xff\xff\xff\xff\xff\xff", []int{7}, []int{1<<56 - 1}},
		{"\x01\x02\x03\x04\x05\x06\x07\x08\x09\x0a", []int{1, 2, 3, 4}, []int{0x01, 0x0203, 0x040506, 0x0708090a}},
		{"\x01\x02\x03\x04\x05\x06\x07\x08\x09\x0a\x0b", []int{6, 5}, []int{0x010203040506, 0x0708090a0b}},
		{"", nil, nil},
	} {
		for _, behind := range []string{"", "\x00", "\xff", "more than that"} {
			if l, e := num.Take(c.s+behind, c.sizes...); !slices.Equal(l, c.want) || e != api.OK {
				t.Errorf("Take(%q, %d): %d %d, want %d", c.s+behind, c.sizes, l, e, c.want)
			}
		}
	}
}

// P1.1: a byte too few is too short, wherever it is missing.
func TestTakeShort(t *testing.T) {
	s := strings.Repeat("\x01", 28)
	for _, sizes := range [][]int{{1}, {2}, {7}, {1, 1}, {3, 1, 2}, {7, 1}, {1, 7}, {7, 6, 5, 4, 3, 2, 1}} {
		all := num.Size(sizes...)
		for n := range all {
			if l, e := num.Take(s[:n], sizes...); len(l) != 0 || e != api.ErrShort {
				t.Errorf("Take of %d bytes, %d: %d %d", n, sizes, l, e)
			}
		}
		if l, e := num.Take(s[:all], sizes...); len(l) != len(sizes) || e != api.OK {
			t.Errorf("Take of %d bytes, %d: %d %d", all, sizes, l, e)
		}
	}
}

// P1.1: a wrong size, wherever it stands, is told ahead of too few bytes.
func TestTakeSize(t *testing.T) {
	for _, bad := range wrongSizes {
		for _, sizes := range [][]int{{bad}, {1, bad}, {bad, 1}, {1, bad, 1}, {7, 7, bad}, {bad, bad}} {
			for _, s := range []string{"", "a", "abc", strings.Repeat("a", 300)} {
				if l, e := num.Take(s, sizes...); len(l) != 0 || e != api.ErrArg {
					t.Errorf("Take of %d bytes, %d: %d %d", len(s), sizes, l, e)
				}
			}
		}
	}
}

// P1.1: Size's sum, and 0 of a wrong size wherever it stands.
func TestSize(t *testing.T) {
	for _, c := range []struct {
		sizes []int
		want  int
	}{
		{nil, 0},
		{[]int{1}, 1},
		{[]int{7}, 7},
		{[]int{1, 7}, 8},
		{[]int{1, 2, 3, 4, 5, 6, 7}, 28},
		{slices.Repeat([]int{7}, 1000), 7000},
	} {
		if n := num.Size(c.sizes...); n != c.want {
			t.Errorf("Size(%d): %d, want %d", c.sizes, n, c.want)
		}
	}
	for _, bad := range wrongSizes {
		for _, sizes := range [][]int{{bad}, {1, bad}, {bad, 1}, {1, bad, 7}, {bad, -bad}} {
			if n := num.Size(sizes...); n != 0 {
				t.Errorf("Size(%d): %d", sizes, n)
			}
		}
	}
}

// P1.1: Put and Take lead to one another, from numbers and from bytes.
func TestBackAndForth(t *testing.T) {
	for size := 1; size <= 7; size++ {
		var l []int
		for bit := range 8 * size {
			l = append(l, 1<<bit, 1<<bit-1, highest(size)-1<<bit, highest(size)>>bit)
		}
		sizes := slices.Repeat([]int{size}, len(l))
		s, e := num.Put(size, l...)
		if e != api.OK || len(s) != num.Size(sizes...) {
			t.Fatalf("Put(%d, %d): %d bytes, %d", size, l, len(s), e)
		}
		back, e := num.Take(s, sizes...)
		if e != api.OK || !slices.Equal(back, l) {
			t.Errorf("size %d: %d came back as %d, %d", size, l, back, e)
		}
	}
	bytes := everyByte()
	for size := 1; size <= 7; size++ {
		s := bytes[:len(bytes)/size*size]
		l, e := num.Take(s, slices.Repeat([]int{size}, len(s)/size)...)
		if e != api.OK {
			t.Fatal(size, e)
		}
		if back, e := num.Put(size, l...); e != api.OK || back != s {
			t.Errorf("size %d: %q came back as %q, %d", size, s, back, e)
		}
	}
}

// everyByte is a text in which each byte stands once.
func everyByte() string {
	b := make([]byte, 256)
	for i := range b {
		b[i] = byte(i)
	}
	return string(b)
}

// P1.1: numbers of unlike sizes, put one by one, are taken together.
func TestUnlikeSizes(t *testing.T) {
	var s string
	var l, sizes []int
	for size := 7; size >= 1; size-- {
		p, e := num.Put(size, highest(size)-size)
		if e != api.OK {
			t.Fatal(size, e)
		}
		s, l, sizes = s+p, append(l, highest(size)-size), append(sizes, size)
	}
	if back, e := num.Take(s, sizes...); e != api.OK || !slices.Equal(back, l) {
		t.Errorf("%d came back as %d, %d", l, back, e)
	}
}

// P1.1, rule 2 of the document: no argument is written into, and no answer shares memory with one or with another answer.
func TestNothingShared(t *testing.T) {
	l, sizes := []int{3, 2, 1}, []int{1, 2, 1}
	if _, e := num.Put(2, l...); e != api.OK || !slices.Equal(l, []int{3, 2, 1}) {
		t.Error("Put wrote into its numbers", l, e)
	}
	a, e := num.Take("\x01\x00\x02\x03", sizes...)
	if e != api.OK || !slices.Equal(a, []int{1, 2, 3}) {
		t.Fatal(a, e)
	}
	b, _ := num.Take("\x01\x00\x02\x03", sizes...)
	clear(a)
	if !slices.Equal(sizes, []int{1, 2, 1}) || !slices.Equal(b, []int{1, 2, 3}) {
		t.Error("Take's answer is shared", sizes, b)
	}
	num.Size(sizes...)
	if !slices.Equal(sizes, []int{1, 2, 1}) {
		t.Error("Size wrote into its sizes", sizes)
	}
}
