// Package num is layer 1: numbers as bytes: see shared/doc/01-num.md.
package num

import "triptych/api"

// most is 7, not 8, so that whatever stands in a number's bytes is an int that isn't negative.
const most = 7

// Put is numbers as bytes: each in size bytes, the highest first.
func Put(size int, l ...int) (string, api.Errno) {
	if !right(size) {
		return "", api.ErrArg
	}
	b := make([]byte, 0, size*len(l))
	for _, n := range l {
		if !fits(size, n) {
			return "", api.ErrRange
		}
		b = add(b, size, n)
	}
	return string(b), api.OK
}

// Take is the numbers that stand in s from its beginning, each in so many bytes.
func Take(s string, sizes ...int) ([]int, api.Errno) {
	need, ok := total(sizes)
	if !ok {
		return nil, api.ErrArg
	}
	if len(s) < need {
		return nil, api.ErrShort
	}
	l := make([]int, 0, len(sizes))
	for _, size := range sizes {
		l = append(l, number(s[:size]))
		s = s[size:]
	}
	return l, api.OK
}

// Size is how many bytes numbers of these sizes have.
func Size(sizes ...int) int {
	n, _ := total(sizes)
	return n
}

// right tells whether a number may have that many bytes.
func right(size int) bool { return 1 <= size && size <= most }

// fits tells whether n can stand in size bytes. (A number below 0 stays below 0 when it is shifted, so it doesn't.)
func fits(size, n int) bool { return n>>(8*size) == 0 }

// total is how many bytes the sizes are in all, and whether each is right. (Of none that is 0 too, so the sum alone doesn't tell.)
func total(sizes []int) (int, bool) {
	n := 0
	for _, size := range sizes {
		if !right(size) {
			return 0, false
		}
		n += size
	}
	return n, true
}

// add is b with n's bytes behind it.
func add(b []byte, size, n int) []byte {
	for i := size - 1; i >= 0; i-- {
		b = append(b, byte(n>>(8*i)))
	}
	return b
}

// number is the number whose bytes these are.
func number(s string) int {
	n := 0
	for i := range len(s) {
		n = n<<8 | int(s[i])
	}
	return n
}
