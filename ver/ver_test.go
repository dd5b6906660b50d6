package ver_test

import (
	"math"
	"regexp"
	"slices"
	"strings"
	"testing"

	"triptych/api"
	"triptych/ver"
)

// form is the form of a word; what it doesn't ask is whether the numbers are in their range.
var form = regexp.MustCompile(`\A(0|[1-9][0-9]{0,4})\.(0|[1-9][0-9]{0,4})\.(0|[1-9][0-9]{0,4})\z`)

// told is the version that a text tells, by the tests' own reading of it.
func told(s string) (api.Version, api.Errno) {
	l := form.FindStringSubmatch(s)
	if l == nil {
		return api.Version{}, api.ErrForm
	}
	var v api.Version
	for i := range v {
		for _, c := range l[1+i] {
			v[i] = 10*v[i] + int(c-'0')
		}
		if v[i] > 65535 {
			return api.Version{}, api.ErrForm
		}
	}
	return v, api.OK
}

// parsed holds a Parse against the tests' own reading.
func parsed(t *testing.T, s string) api.Errno {
	t.Helper()
	want, err := told(s)
	if v, e := ver.Parse(s); v != want || e != err {
		t.Fatalf("%.60q: %v %v, want %v %v", s, v, e, want, err)
	}
	return err
}

// digits is a number from 0 to 65535 in digits, made one by one.
func digits(n int) string {
	s := ""
	for n > 9 {
		s = string(rune('0'+n%10)) + s
		n /= 10
	}
	return string(rune('0'+n)) + s
}

// numbers are a version's numbers: the edges, those about each power of ten, and those about the end of a byte.
func numbers() []int {
	return []int{0, 1, 2, 9, 10, 11, 99, 100, 101, 127, 128, 255, 256, 999, 1000, 1001, 9999, 10000, 10001, 32767, 32768, 65534, 65535}
}

// far are numbers that no version has.
func far() []int {
	return []int{
		math.MinInt, math.MinInt + 1, -1 << 48, -1 << 32, -1 << 31, -65537, -65536, -65535, -256, -2, -1,
		65536, 65537, 65546, 99999, 100000, 131071, 131072, 1 << 31, 1<<32 - 1, 1 << 32, 1<<32 + 1, 1<<48 + 7, 1 << 56, math.MaxInt - 1, math.MaxInt,
	}
}

// triples are all versions of these numbers.
func triples(l []int) []api.Version {
	var all []api.Version
	for _, a := range l {
		for _, b := range l {
			for _, c := range l {
				all = append(all, api.Version{a, b, c})
			}
		}
	}
	return all
}

// ahead tells whether a stands ahead of b, number by number.
func ahead(a, b api.Version) bool {
	if a[0] != b[0] {
		return a[0] < b[0]
	}
	if a[1] != b[1] {
		return a[1] < b[1]
	}
	return a[2] < b[2]
}

// P18.1: the chapter's examples, and some words written out.
func TestExamples(t *testing.T) {
	for _, c := range []struct {
		v api.Version
		s string
	}{
		{api.Version{1, 0, 12}, "1.0.12"},
		{api.Version{}, "0.0.0"},
		{api.Version{0, 0, 1}, "0.0.1"},
		{api.Version{100, 20, 3}, "100.20.3"},
		{api.Version{1, 2, 3}, "1.2.3"},
		{api.Version{3, 2, 1}, "3.2.1"},
		{api.Version{65535, 65535, 65535}, "65535.65535.65535"},
		{api.Version{10000, 0, 65534}, "10000.0.65534"},
	} {
		if s := ver.Text(c.v); s != c.s {
			t.Errorf("%v: %q, want %q", c.v, s, c.s)
		}
		if v, e := ver.Parse(c.s); v != c.v || e != api.OK {
			t.Errorf("%q: %v %v, want %v", c.s, v, e, c.v)
		}
	}
	if v, e := ver.Parse("1.01.2"); v != (api.Version{}) || e != api.ErrForm {
		t.Error(v, e)
	}
}

// P18.1: of what is right Text is its three numbers in digits, and Parse leads back.
func TestText(t *testing.T) {
	for _, v := range triples(numbers()) {
		s := digits(v[0]) + "." + digits(v[1]) + "." + digits(v[2])
		if got := ver.Text(v); got != s || !ver.Right(v) {
			t.Fatalf("%v: %q, want %q", v, got, s)
		}
		if got, e := ver.Parse(s); got != v || e != api.OK {
			t.Fatalf("%q: %v %v", s, got, e)
		}
	}
}

// P18.1: each number that a version may have, and some above them, at each place.
func TestEachNumber(t *testing.T) {
	for n := range 70000 {
		for i := range 3 {
			v, words := api.Version{7, 80, 900}, []string{"7", "80", "900"}
			v[i], words[i] = n, digits(n)
			s, right := strings.Join(words, "."), n <= 65535
			if ver.Right(v) != right {
				t.Fatal(v, !right)
			}
			if got := ver.Text(v); right && got != s || !right && got != "" {
				t.Fatalf("%v: %q", v, got)
			}
			if err := parsed(t, s); (err == api.OK) != right {
				t.Fatal(s, err)
			}
		}
	}
}

// P18.1: a number outside 0 .. 65535, wherever it stands: it isn't right, and has no word.
func TestWrongNumbers(t *testing.T) {
	for _, n := range far() {
		for _, others := range [][2]int{{0, 0}, {1, 2}, {65535, 65535}, {0, 65535}, {n, 0}, {65535, n}, {-n, n}, {n, n}} {
			for _, v := range []api.Version{{n, others[0], others[1]}, {others[0], n, others[1]}, {others[0], others[1], n}} {
				if s := ver.Text(v); s != "" || ver.Right(v) {
					t.Errorf("%v: %q", v, s)
				}
			}
		}
	}
	if !ver.Right(api.Version{}) || !ver.Right(api.Version{65535, 65535, 65535}) {
		t.Error("the edges")
	}
}

// P18.1: texts that are no version's word, each wrong in one thing.
func TestParseWrong(t *testing.T) {
	for _, s := range []string{
		"", " ", ".", "..", "...", "0", "1", "1.", "1.2", "1.2.", ".1.2", "1..2", "1.2..", "..1", "1.2.3.", ".1.2.3", "1.2.3.4", "1.2.3.0", "1.2..3", "1..2.3", "0.0.0.0", "123", "0.0",
		"01.2.3", "1.02.3", "1.2.03", "00.0.0", "0.00.0", "0.0.00", "001.2.3", "1.2.000003",
		"-1.2.3", "1.-2.3", "1.2.-3", "-0.0.0", "0.-0.0", "0.0.-0", "+1.2.3", "1.+2.3", "1.2.+3",
		" 1.2.3", "1.2.3 ", "1 .2.3", "1. 2.3", "1.2.3\n", "\n1.2.3", "1.2.3\r", "\t1.2.3", "1.2.3\x00", "\x001.2.3", "1.2.\x003",
		"a.b.c", "1.2.c", "1.b.3", "a.2.3", "v1.2.3", "1.2.3a", "1.2.3-a", "1.2.3+1", "1,2,3", "1:2:3", "1.2,3", "1/2/3", "1 2 3", "1_0.2.3", "1.1_0.3", "1.2.1_0",
		"0x1.2.3", "1.0b1.3", "1.2.0o7", "1e2.3.4", "1.2.3e0", "a1.2.3", "1.2.ff", "1.2.½", "1.2.٣", "１.2.3", "1．2．3", "1.2.\xff", "\xff", "inf.nan.0",
		"65536.0.0", "0.65536.0", "0.0.65536", "65535.65535.65536", "99999.0.0", "100000.0.0", "0.131072.0", "0.0.4294967296", "4294967297.0.0", "0.18446744073709551616.0", "0.0.18446744073709551617", "9223372036854775807.0.0", "9223372036854775808.0.0", "1.2.36893488147419103235", "1.2." + strings.Repeat("9", 100), "1.2." + strings.Repeat("0", 100) + "3",
	} {
		if v, e := ver.Parse(s); v != (api.Version{}) || e != api.ErrForm {
			t.Errorf("%q: %v %v", s, v, e)
		}
		parsed(t, s)
	}
}

// P18.1: words of which a letter is left out, or another one, or a letter is put between, or two are swapped; and what is cut off.
func TestParseLetters(t *testing.T) {
	kinds := map[api.Errno]int{}
	for _, s := range []string{"0.0.0", "1.2.3", "1.0.12", "65535.65535.65535", "65534.10.9", "10.0.100", "6553.6553.6553", "0.65529.0"} {
		for i := range len(s) + 1 {
			l := []string{s[:i], s[i:]}
			for c := range 256 {
				letter := string([]byte{byte(c)})
				l = append(l, s[:i]+letter+s[i:])
				if i < len(s) {
					l = append(l, s[:i]+letter+s[i+1:])
				}
			}
			if i < len(s) {
				l = append(l, s[:i]+s[i+1:])
			}
			if i+1 < len(s) {
				l = append(l, s[:i]+s[i+1:i+2]+s[i:i+1]+s[i+2:])
			}
			for _, x := range l {
				kinds[parsed(t, x)]++
			}
		}
	}
	if kinds[api.OK] < 500 || kinds[api.ErrForm] < 500 {
		t.Error(kinds)
	}
}

// P18.1: all texts of a few letters, up to eight of them.
func TestParseAll(t *testing.T) {
	kinds := map[api.Errno]int{}
	for _, letters := range []string{"0.", "01.", "09.-", "5.+", "67. "} {
		l := []string{""}
		for range 8 {
			var more []string
			for _, s := range l {
				for i := range len(letters) {
					more = append(more, s+letters[i:i+1])
				}
			}
			for _, s := range more {
				kinds[parsed(t, s)]++
			}
			l = more
		}
	}
	if kinds[api.OK] < 500 || kinds[api.ErrForm] < 500 {
		t.Error(kinds)
	}
}

// P18.1: long texts are no words either.
func TestParseLong(t *testing.T) {
	for _, s := range []string{".", "0", "9", "0.", "1.2.3", "1.2.3.", "1.2.3\n", "-", "a", "\x00", "\xff"} {
		for _, x := range []string{strings.Repeat(s, 1<<20), "1.2.3" + strings.Repeat(s, 1<<20), "1.2." + strings.Repeat(s, 1<<20), strings.Repeat(s, 1<<20) + "1.2.3"} {
			if v, e := ver.Parse(x); v != (api.Version{}) || e != api.ErrForm {
				t.Errorf("%q many times: %v %v", s, v, e)
			}
		}
	}
}

// P18.1: the order is that of the first numbers, then of the second, then of the third ones; of any numbers.
func TestCompare(t *testing.T) {
	for _, l := range [][]int{{0, 1, 9, 10, 255, 256, 65535}, {math.MinInt, -1, 0, 65536, math.MaxInt}, {math.MinInt, math.MinInt + 1, math.MaxInt - 1, math.MaxInt}, {-1 << 32, -1 << 31, 1 << 31, 1 << 32, 1<<32 + 1}} {
		all := triples(l)
		for _, a := range all {
			for _, b := range all {
				want := 0
				if ahead(a, b) {
					want = -1
				} else if ahead(b, a) {
					want = 1
				}
				if got := ver.Compare(a, b); got != want {
					t.Fatal(a, b, got, want)
				}
			}
		}
	}
}

// P18.1: versions written out in their order, each against each.
func TestCompareWritten(t *testing.T) {
	l := []api.Version{
		{math.MinInt, 0, 0}, {-2, 9, 9}, {-1, -1, -1}, {-1, 0, 0}, {0, -1, 7}, {0, 0, -1}, {}, {0, 0, 1}, {0, 0, 2}, {0, 0, 10}, {0, 0, 65535}, {0, 1, 0}, {0, 2, 0}, {0, 10, 0}, {0, 99, 99},
		{1, 0, 0}, {1, 0, 12}, {1, 2, 3}, {1, 2, 4}, {1, 3, 0}, {1, 10, 0}, {2, 0, 0}, {2, 1, 1}, {10, 0, 0}, {65535, 65535, 65535}, {65536, 0, 0}, {math.MaxInt, -1, 0}, {math.MaxInt, 0, 0},
	}
	for i, a := range l {
		for j, b := range l {
			want := 0
			if i < j {
				want = -1
			} else if i > j {
				want = 1
			}
			if got := ver.Compare(a, b); got != want {
				t.Error(a, b, got, want)
			}
		}
	}
}

// P18.1: the greatest of none is the zero one and false, however none is handed in.
func TestGreatestOfNone(t *testing.T) {
	some := []api.Version{{1, 2, 3}}
	for _, l := range [][]api.Version{nil, {}, some[:0], some[1:]} {
		if v, ok := ver.Greatest(l...); v != (api.Version{}) || ok {
			t.Error(v, ok)
		}
	}
	if v, ok := ver.Greatest(); v != (api.Version{}) || ok {
		t.Error(v, ok)
	}
}

// P18.1: the greatest of one is that one, the zero one and what isn't right too.
func TestGreatestOfOne(t *testing.T) {
	for _, v := range append(triples([]int{math.MinInt, -1, 0, 1, 65535, 65536, math.MaxInt}), api.Version{1, 2, 3}) {
		if got, ok := ver.Greatest(v); got != v || !ok {
			t.Error(v, got, ok)
		}
		if got, ok := ver.Greatest(v, v, v); got != v || !ok {
			t.Error(v, got, ok)
		}
	}
}

// P18.1: the greatest stands behind all others, wherever it is handed in.
func TestGreatest(t *testing.T) {
	for _, l := range [][]int{{0, 1, 10}, {-2, -1, 0}, {math.MinInt, -1}, {math.MinInt, 0, math.MaxInt}, {255, 256, 65535}} {
		all := triples(l)
		for _, a := range all {
			for _, b := range all {
				for _, c := range all {
					want := a
					if ahead(want, b) {
						want = b
					}
					if ahead(want, c) {
						want = c
					}
					if v, ok := ver.Greatest(a, b, c); v != want || !ok {
						t.Fatal(a, b, c, v, ok)
					}
				}
			}
		}
	}
}

// P18.1: of many versions too; they aren't written into, whatever place the greatest stands at.
func TestGreatestOfMany(t *testing.T) {
	great := api.Version{40, 0, 1}
	for n := 1; n < 80; n++ {
		for at := range n {
			var l []api.Version
			for i := range n {
				l = append(l, api.Version{i * 37 % 40, 65535 - i, i * 11 % 13})
			}
			l[at] = great
			before := slices.Clone(l)
			if v, ok := ver.Greatest(l...); v != great || !ok || !slices.Equal(l, before) {
				t.Fatal(n, at, v, ok)
			}
		}
	}
	many := slices.Repeat([]api.Version{{1, 2, 3}, {3, 2, 1}, {2, 65535, 65535}}, 100000)
	if v, ok := ver.Greatest(many...); v != (api.Version{3, 2, 1}) || !ok {
		t.Error(v, ok)
	}
}
